package bulk

import (
	"fmt"
	"runtime"
	"slices"
	"strings"
	"sync"
	"testing"
	"time"

	"tocsin/api"
	"tocsin/cond"
	"tocsin/jsonval"
	"tocsin/room"
	"tocsin/rules"
)

// crowd is an index with users, who are members of a room.
func crowd(t testing.TB, count int) (*Index, *room.Room, []string) {
	t.Helper()
	x := New()
	var users, members []string
	for i := range count {
		users = append(users, nth(i))
		members = append(members, nth(i), fmt.Sprint("name", i))
		x.Set(nth(i), setOf(t, nth(i)))
	}
	return x, roomOf(t, members...), users
}

func TestNothingIsChanged(t *testing.T) {
	t.Parallel()
	x, r, users := crowd(t, 9)
	apply(t, r, "m.room.power_levels", "", `{"users":{"@u1:home":5},"notifications":{"room":5}}`)
	roomAhead := savedRoom(r) + r.Print().Print()
	e := event(t, nth(1), "m.room.message", `"body":"name3","m.mentions":{"room":true,"user_ids":["@u4:home"]}`)
	eventAhead, body := *e, e.Body.Print()
	// A piece of a longer list, with room behind it.
	long := append(slices.Clone(users), "behind", "behind")
	listAhead := slices.Clone(long)
	for n := range len(users) + 1 {
		x.Evaluate(r, e, long[:n])
		x.Evaluate(r, e, long[n:])
	}
	if !slices.Equal(long, listAhead) {
		t.Errorf("P3: the list of users has become %q", long)
	}
	if savedRoom(r)+r.Print().Print() != roomAhead {
		t.Errorf("B2: the room has become another")
	}
	if *e != eventAhead || e.Body.Print() != body {
		t.Errorf("B2: the event has become another")
	}
}

func TestAnswersAreTheCallers(t *testing.T) {
	t.Parallel()
	x, r, users := crowd(t, 9)
	e := message(t, "name3")
	want := slices.Clone(x.Evaluate(r, e, users))
	first, second := x.Evaluate(r, e, users), x.Evaluate(r, e, users)
	for i := range cap(first) {
		first[:cap(first)][i] = api.Verdict{User: "spoilt"}
	}
	if !slices.Equal(second, want) {
		t.Errorf("P3: two answers share memory")
	}
	if got := x.Evaluate(r, e, users); !slices.Equal(got, want) {
		t.Errorf("P3: who writes into an answer changes later ones")
	}
	// The list that was handed in is not kept, either.
	list := slices.Clone(users)
	got := x.Evaluate(r, e, list)
	for i := range list {
		list[i] = "spoilt"
	}
	if !slices.Equal(got, want) {
		t.Errorf("P3: the answer hangs on the list behind the call")
	}
}

func TestAgain(t *testing.T) {
	t.Parallel()
	// However goroutines run, the answers are the same (P4).
	x, r, users := crowd(t, 50)
	e := message(t, "name3, name30 and u17")
	want := x.Evaluate(r, e, users)
	work := x.Work()
	for range 300 {
		tells(t, x, r, e, users, want...)
		works(t, x, work)
		if t.Failed() {
			return
		}
	}
}

func TestIndexesAtOnce(t *testing.T) {
	t.Parallel()
	// Indexes have nothing to do with one another: each may have a goroutine of its own, though the rules were of one set.
	s := setOf(t, ann)
	override(t, s, "cake", cake, display)
	var all sync.WaitGroup
	for i := range 8 {
		x, r, users := crowd(t, 20)
		for _, user := range users {
			x.Set(user, s)
		}
		e := message(t, fmt.Sprint("cake for name", i))
		all.Go(func() {
			for range 30 {
				for at, v := range x.Evaluate(r, e, users) {
					if (v.Rule == "override/cake") != (at == i) {
						t.Errorf("B2: %+v in the index %d", v, i)
					}
				}
				// The mention, everybody's first, the local part, the count, the type; the cake, and 20 names.
				works(t, x, 5+1+20)
			}
		})
	}
	all.Wait()
}

func TestSetsAtOnce(t *testing.T) {
	t.Parallel()
	// A set that was Set is not read any more: it may be changed while the index is asked.
	x, r, users := crowd(t, 20)
	s := setOf(t, ann)
	for _, user := range users {
		x.Set(user, s)
	}
	e, rule := message(t, "cake"), value(t, `{"actions":[]}`)
	var all sync.WaitGroup
	all.Go(func() {
		for i := range 200 {
			s.Enable("underride", ".message", i%2 == 0)
			s.Put("override", fmt.Sprint(i%9), rule, "", "")
		}
	})
	for range 50 {
		for _, v := range x.Evaluate(r, e, users) {
			if v.Rule != "underride/.message" {
				t.Errorf("B1: %+v", v)
			}
		}
	}
	all.Wait()
}

func TestGoroutinesEnd(t *testing.T) {
	// Not beside other tests, whose goroutines would be counted.
	x, r, users := crowd(t, 50)
	e := message(t, "hi")
	ahead := runtime.NumGoroutine()
	for n := range 200 {
		x.Evaluate(r, e, users[:n%len(users)])
	}
	for range 100 { // one that has done its last may still be counted for a moment
		if runtime.NumGoroutine() <= ahead {
			return
		}
		time.Sleep(10 * time.Millisecond)
	}
	t.Errorf("goroutines: %d, ahead of Evaluate %d", runtime.NumGoroutine(), ahead)
}

func TestAskedOnce(t *testing.T) {
	t.Parallel()
	// Whoever asks again gets the first answer: the condition itself is not asked any more.
	c, errno := cond.Parse(value(t, yes))
	if errno != api.OK {
		t.Fatalf("C1: %d", errno)
	}
	m := newMemo()
	if !m.holds(condition{c, c.Name()}, cond.Facts{Joined: 2}) || !m.holds(condition{c, c.Name()}, cond.Facts{Joined: 3}) || m.asked() != 1 {
		t.Errorf("B3: a condition was asked twice")
	}
}

// ends wants that a call ends, and does not panic.
func ends(t testing.TB, name string, call func()) {
	t.Helper()
	defer func() {
		if fault := recover(); fault != nil {
			t.Errorf("P1: %s: panic: %v", name, fault)
		}
	}()
	call()
}

func TestWrongArguments(t *testing.T) {
	t.Parallel()
	x, r, users := crowd(t, 6)
	users = append(users, "", "\xff", "@", strings.Repeat("x", 100000))
	e := message(t, "hi")
	want := x.Evaluate(r, e, users)
	for name, wrong := range map[string]*room.Event{
		"nil": nil, "zero": {}, "of a number": {Body: jsonval.OfInt(7)}, "of a list": {Sender: ann, Body: jsonval.OfList(nil, jsonval.OfText("x"))}, "of a type that is a list": {Body: jsonval.OfMap(map[string]*jsonval.Value{"type": jsonval.OfList(), "content": nil})},
	} {
		ends(t, "Evaluate of the event "+name, func() {
			got := x.Evaluate(r, wrong, users)
			if len(got) != len(users) {
				t.Errorf("B2: of the event %s: %d verdicts of %d users", name, len(got), len(users))
			}
			for i, v := range got {
				if v != nothing(users[i]) {
					t.Errorf("B2: of the event %s: %+v", name, v)
				}
			}
		})
		ends(t, "Evaluate of nobody and the event "+name, func() { x.Evaluate(nil, wrong, nil) })
	}
	for name, wrong := range map[string]*room.Room{"nil": nil, "zero": {}} {
		ends(t, "Evaluate of the room "+name, func() {
			if got := x.Evaluate(wrong, e, users); !slices.Equal(got, want) {
				t.Errorf("B2: in the room %s: %+v, want %+v", name, got, want)
			}
		})
	}
	ends(t, "Set of a zero set", func() {
		x.Set("zero", &rules.Set{})
		tells(t, x, r, e, []string{"zero"}, nothing("zero"))
	})
	ends(t, "Set of nil", func() {
		for _, user := range append(users, "zero", "unknown") {
			x.Set(user, nil)
		}
		x.Evaluate(r, e, users)
		works(t, x, 0)
	})
}

func TestVeryManyUsers(t *testing.T) {
	t.Parallel()
	// A long list, of few users and of many.
	x, r, users := crowd(t, 3)
	e := message(t, "name1")
	var list []string
	for i := range 200000 {
		list = append(list, []string{users[0], users[1], "nobody"}[i%3])
	}
	got := x.Evaluate(r, e, list)
	works(t, x, 6+2)
	for i, v := range got {
		if want := []api.Verdict{messageOf(users[0]), nameOf(users[1]), nothing("nobody")}[i%3]; v != want {
			t.Fatalf("B2: %+v, want %+v", v, want)
		}
	}
	s := setOf(t, ann)
	list = list[:0]
	for i := range 5000 {
		user := fmt.Sprint("user ", i)
		x.Set(user, s)
		list = append(list, user)
	}
	for i, v := range x.Evaluate(r, e, list) {
		if v != messageOf(list[i]) {
			t.Fatalf("B2: %+v", v)
		}
	}
	works(t, x, 5+5000)
}
