package bulk

import (
	"fmt"
	"slices"
	"strings"
	"testing"

	"tocsin/api"
	"tocsin/jsonval"
	"tocsin/room"
	"tocsin/rules"
	"tocsin/wire"
)

// The calls as they were given.
var (
	_ func() *Index                                                 = New
	_ func(*Index, string, *rules.Set)                              = (*Index).Set
	_ func(*Index, *room.Room, *room.Event, []string) []api.Verdict = (*Index).Evaluate
	_ func(*Index) int                                              = (*Index).Work
)

const ann, bob, cyd = "@a:home", "@b:home", "@c:home"

func value(t testing.TB, text string) *jsonval.Value {
	t.Helper()
	v, err := jsonval.Parse([]byte(text))
	if err != nil {
		t.Fatalf("J1: Parse(%s): %v", text, err)
	}
	return v
}

// event is one of !r; of its content what stands in it.
func event(t testing.TB, sender, kind, content string) *room.Event {
	t.Helper()
	return read(t, `{"event_id":"$1","room_id":"!r","sender":"`+sender+`","type":"`+kind+`","content":{`+content+`}}`)
}

func read(t testing.TB, text string) *room.Event {
	t.Helper()
	e, errno := room.ReadEvent(value(t, text))
	if errno != api.OK {
		t.Fatalf("O1: ReadEvent(%s): %d", text, errno)
	}
	return e
}

func message(t testing.TB, body string) *room.Event {
	t.Helper()
	return event(t, cyd, "m.room.message", `"body":"`+body+`"`)
}

// apply lets a room take in an event of state.
func apply(t testing.TB, r *room.Room, kind, key, content string) {
	t.Helper()
	e := read(t, `{"event_id":"$1","room_id":"!r","sender":"@a:home","type":"`+kind+`","state_key":"`+key+`","content":`+content+`}`)
	if _, errno := r.Apply(e); errno != api.OK {
		t.Fatalf("O3: Apply(%s): %d", e.Body.Print(), errno)
	}
}

func join(t testing.TB, r *room.Room, user, display string) {
	t.Helper()
	apply(t, r, "m.room.member", user, `{"membership":"join","displayname":"`+display+`"}`)
}

// roomOf is one with members, by their names and displays in turn.
func roomOf(t testing.TB, members ...string) *room.Room {
	t.Helper()
	r, errno := room.New("!r")
	if errno != api.OK {
		t.Fatalf("O2: New(!r): %d", errno)
	}
	for i := 0; i < len(members); i += 2 {
		join(t, r, members[i], members[i+1])
	}
	return r
}

func setOf(t testing.TB, user string) *rules.Set {
	t.Helper()
	s, errno := rules.New(user)
	if errno != api.OK {
		t.Fatalf("R1: New(%q): %d", user, errno)
	}
	return s
}

// bare is a set none of whose rules is enabled.
func bare(t testing.TB, user string) *rules.Set {
	t.Helper()
	s := setOf(t, user)
	for r := range s.All() {
		s.Enable(r.Kind, r.ID, false)
	}
	return s
}

// put adds a rule as the last of its kind.
func put(t testing.TB, s *rules.Set, kind, id, rule string) {
	t.Helper()
	last := ""
	for r := range s.All() {
		if r.Kind == kind && !r.Own && r.ID != id {
			last = r.ID
		}
	}
	if errno := s.Put(kind, id, value(t, rule), "", last); errno != api.OK {
		t.Fatalf("R2: Put(%q, %q, %s): %d", kind, id, rule, errno)
	}
}

// override adds one that says nothing, with conditions.
func override(t testing.TB, s *rules.Set, id string, conds ...string) {
	t.Helper()
	put(t, s, "override", id, `{"actions":[],"conditions":[`+strings.Join(conds, ",")+`]}`)
}

func enable(t testing.TB, s *rules.Set, kind, id string, on bool) {
	t.Helper()
	if errno := s.Enable(kind, id, on); errno != api.OK {
		t.Fatalf("R3: Enable(%q, %q): %d", kind, id, errno)
	}
}

func savedSet(s *rules.Set) string {
	w := wire.NewWriter()
	s.Save(w)
	return string(w.Bytes())
}

func savedRoom(r *room.Room) string {
	w := wire.NewWriter()
	r.Save(w)
	return string(w.Bytes())
}

// Verdicts that come often.
func told(user, rule string, a api.Actions) api.Verdict {
	return api.Verdict{User: user, Rule: rule, Actions: a}
}

func pairOf(user string) api.Verdict {
	return told(user, "underride/.pair", api.Actions{Notify: true, Sound: "default"})
}

func messageOf(user string) api.Verdict {
	return told(user, "underride/.message", api.Actions{Notify: true})
}

func nameOf(user string) api.Verdict {
	return told(user, "override/.name", api.Actions{Notify: true, Highlight: true, Sound: "default"})
}

func nothing(user string) api.Verdict { return api.Verdict{User: user} }

// tells wants what users are told.
func tells(t testing.TB, x *Index, r *room.Room, e *room.Event, users []string, want ...api.Verdict) {
	t.Helper()
	if got := x.Evaluate(r, e, users); !slices.Equal(got, want) {
		t.Errorf("B2: Evaluate(%s, %q):\n%+v, want\n%+v", e.Body.Print(), users, got, want)
	}
}

// works wants the work of the last Evaluate.
func works(t testing.TB, x *Index, want int) {
	t.Helper()
	if got := x.Work(); got != want {
		t.Errorf("B3: Work: %d, want %d", got, want)
	}
}

func TestExamples(t *testing.T) {
	t.Parallel()
	x := New()
	x.Set(ann, setOf(t, ann))
	x.Set(bob, setOf(t, bob))
	r := roomOf(t, ann, "Ann", bob, "Bob")
	tells(t, x, r, message(t, "hello"), []string{ann, bob}, pairOf(ann), pairOf(bob))
	// Of each: the mention, the name, the local part; of both: everybody's first, the count, the type.
	works(t, x, 2*3+3)
	tells(t, x, r, message(t, "hello bob!"), []string{ann, bob}, pairOf(ann), nameOf(bob))
	works(t, x, 3+3+2)
}

func TestSet(t *testing.T) {
	t.Parallel()
	x := New()
	r := roomOf(t, ann, "Ann", bob, "Bob", cyd, "Cyd")
	e := message(t, "hi")
	ask := func(want ...api.Verdict) {
		t.Helper()
		tells(t, x, r, e, []string{ann, bob}, want...)
	}
	ask(nothing(ann), nothing(bob))
	s := setOf(t, ann)
	x.Set(ann, s)
	ask(messageOf(ann), nothing(bob))
	work := x.Work()
	for range 3 { // the same again
		x.Set(ann, s)
		works(t, x, work) // until the next Evaluate
		ask(messageOf(ann), nothing(bob))
		works(t, x, work)
	}
	x.Set(ann, copied(t, ann, s)) // another set that says the same
	ask(messageOf(ann), nothing(bob))
	works(t, x, work)
	x.Set(bob, setOf(t, bob))
	ask(messageOf(ann), messageOf(bob))
	// Others in their place: nothing stays of those that were there.
	other := bare(t, ann)
	override(t, other, "new", `{"kind":"event_match","key":"type","pattern":"x"}`)
	x.Set(ann, other)
	ask(nothing(ann), messageOf(bob))
	override(t, other, "new")
	x.Set(ann, other)
	ask(told(ann, "override/new", api.Actions{}), messageOf(bob))
	x.Set(ann, bare(t, ann)) // rules, none of which is enabled
	ask(nothing(ann), messageOf(bob))
	x.Set(ann, s)
	ask(messageOf(ann), messageOf(bob))
	// None any more; and of who has none.
	for range 2 {
		x.Set(ann, nil)
		ask(nothing(ann), messageOf(bob))
	}
	x.Set(cyd, nil)
	x.Set("", nil)
	ask(nothing(ann), messageOf(bob))
	x.Set(bob, nil)
	ask(nothing(ann), nothing(bob))
	works(t, x, 0)
	x.Set(ann, s)
	ask(messageOf(ann), nothing(bob))
	works(t, x, work)
}

func TestToldByTheFirst(t *testing.T) {
	t.Parallel()
	// What is told is the rule's kind and ID, and its actions as they were.
	x, r, e := New(), roomOf(t), message(t, "the cake")
	for _, c := range []struct{ kind, id, rule string }{
		{"override", "é ü", `{"actions":["notify"]}`},
		{"content", "cake", `{"actions":[{"set_tweak":"sound","value":"ding"}],"pattern":"CAKE"}`},
		{"room", "!r", `{"actions":[{"set_tweak":"highlight"}]}`},
		{"sender", cyd, `{"actions":["notify",{"set_tweak":"sound","value":"x"},{"set_tweak":"highlight"}]}`},
		{"underride", "u", `{"actions":["dont_notify"]}`},
	} {
		s := bare(t, ann)
		put(t, s, c.kind, c.id, c.rule)
		a, name := s.Evaluate(r.Facts(e, ann))
		if name != c.kind+"/"+c.id {
			t.Errorf("R5: %q, want %q", name, c.kind+"/"+c.id)
		}
		x.Set(ann, s)
		tells(t, x, r, e, []string{ann}, told(ann, c.kind+"/"+c.id, a))
		s.SetActions(c.kind, c.id, value(t, `[{"set_tweak":"sound","value":"later"}]`))
		tells(t, x, r, e, []string{ann}, told(ann, c.kind+"/"+c.id, a))
		x.Set(ann, s)
		tells(t, x, r, e, []string{ann}, told(ann, c.kind+"/"+c.id, api.Actions{Sound: "later"}))
	}
	// Of several rules that hold the first one tells.
	s := setOf(t, ann)
	put(t, s, "underride", "u", `{"actions":[]}`)
	put(t, s, "sender", cyd, `{"actions":[]}`)
	put(t, s, "room", "!r", `{"actions":[]}`)
	put(t, s, "content", "c", `{"actions":[],"pattern":"cake"}`)
	override(t, s, "o2")
	override(t, s, "o1")
	for _, c := range [][2]string{{"override", "o2"}, {"override", "o1"}, {"content", "c"}, {"room", "!r"}, {"sender", cyd}, {"underride", "u"}} {
		x.Set(ann, s)
		tells(t, x, r, e, []string{ann}, told(ann, c[0]+"/"+c[1], api.Actions{}))
		if c[1] == "o1" {
			s.Delete(c[0], c[1])
		} else {
			enable(t, s, c[0], c[1], false)
		}
	}
	x.Set(ann, s)
	tells(t, x, r, e, []string{ann}, messageOf(ann))
	enable(t, s, "override", ".master", true)
	x.Set(ann, s)
	tells(t, x, r, e, []string{ann}, told(ann, "override/.master", api.Actions{}))
}

func TestSetNames(t *testing.T) {
	t.Parallel()
	// A user may be any text; texts that are like one another are not the same.
	names := []string{"", " ", "\x00", "\xff", "\xff\xff", "a", "A", "é", "e\u0301", "@a", ann, ann + " ", "@A:home", "!r", "{}", `{"kind":"contains_display_name"}`, strings.Repeat("x", 1000), strings.Repeat("x", 1001)}
	x, r, e := New(), roomOf(t), message(t, "hi")
	want := func(has func(i int) bool) {
		t.Helper()
		var verdicts []api.Verdict
		for i, name := range names {
			v := nothing(name)
			if has(i) {
				v = told(name, fmt.Sprintf("override/%d", i), api.Actions{})
			}
			verdicts = append(verdicts, v)
		}
		tells(t, x, r, e, names, verdicts...)
	}
	want(func(int) bool { return false })
	for at, name := range names {
		s := bare(t, ann)
		override(t, s, fmt.Sprint(at))
		x.Set(name, s)
		want(func(i int) bool { return i <= at })
	}
	for at, name := range names {
		x.Set(name, nil)
		want(func(i int) bool { return i > at })
	}
}

func TestSetIsNotKept(t *testing.T) {
	t.Parallel()
	r, e := roomOf(t, ann, "Ann"), message(t, "hi")
	user := []string{ann}
	type change struct {
		name string
		do   func(s *rules.Set)
	}
	for _, c := range []change{
		{"Put of a new one", func(s *rules.Set) { override(t, s, "first") }},
		{"Put of one that was there", func(s *rules.Set) { override(t, s, "old", `{"kind":"weather"}`) }},
		{"Put at another place", func(s *rules.Set) {
			s.Put("override", "late", value(t, `{"actions":[]}`), "old", "")
		}},
		{"Delete", func(s *rules.Set) { s.Delete("override", "old") }},
		{"Enable", func(s *rules.Set) { s.Enable("override", "old", false) }},
		{"Enable of an own one", func(s *rules.Set) { s.Enable("override", ".master", true) }},
		{"SetActions", func(s *rules.Set) { s.SetActions("override", "old", value(t, `["notify"]`)) }},
	} {
		x := New()
		s := setOf(t, ann)
		override(t, s, "old", `{"kind":"room_member_count","is":"1"}`)
		override(t, s, "late")
		ahead := savedSet(s)
		x.Set(ann, s)
		old := told(ann, "override/old", api.Actions{})
		tells(t, x, r, e, user, old)
		works(t, x, 1)
		if savedSet(s) != ahead {
			t.Errorf("B1: Set or Evaluate has changed the set")
		}
		c.do(s)
		if savedSet(s) == ahead {
			t.Fatalf("%s changes nothing", c.name)
		}
		for range 2 { // a change does not count, however often one asks
			tells(t, x, r, e, user, old)
			works(t, x, 1)
		}
		// It counts with the next Set, for this user alone.
		x.Set(bob, s)
		tells(t, x, r, e, user, old)
		x.Set(ann, s)
		m := newModel()
		m.set(t, ann, ann, s)
		tells(t, x, r, e, user, m.evaluate(r, e, user)...)
		works(t, x, m.work)
	}
}

func TestOneSetOfSeveral(t *testing.T) {
	t.Parallel()
	// One set, given to several users, and changed between: each has it as it was then.
	x, r, e := New(), roomOf(t), message(t, "hi")
	s := bare(t, ann)
	var users []string
	var want []api.Verdict
	for i := range 20 {
		user, id := fmt.Sprint("user ", i), fmt.Sprint("rule ", i)
		if errno := s.Put("override", id, value(t, `{"actions":[]}`), "", ""); errno != api.OK {
			t.Fatalf("R2: %d", errno)
		}
		x.Set(user, s)
		users = append(users, user)
		want = append(want, told(user, "override/"+id, api.Actions{}))
	}
	tells(t, x, r, e, users, want...)
	works(t, x, 0)
}

func TestEvaluateOfUsers(t *testing.T) {
	t.Parallel()
	x := New()
	r := roomOf(t, ann, "Ann", bob, "Bob", cyd, "Cyd")
	e := message(t, "hi Bob")
	for _, users := range [][]string{nil, {}, make([]string, 0, 9)} {
		tells(t, x, r, e, users)
		works(t, x, 0)
	}
	x.Set(ann, setOf(t, ann))
	x.Set(bob, setOf(t, bob))
	for _, users := range [][]string{nil, {}, make([]string, 0, 9)} {
		tells(t, x, r, e, users)
		works(t, x, 0)
	}
	tells(t, x, r, e, []string{ann}, messageOf(ann))
	tells(t, x, r, e, []string{bob}, nameOf(bob))
	tells(t, x, r, e, []string{bob, ann}, nameOf(bob), messageOf(ann))
	tells(t, x, r, e, []string{ann, ann}, messageOf(ann), messageOf(ann))
	tells(t, x, r, e, []string{bob, ann, bob, bob, ann}, nameOf(bob), messageOf(ann), nameOf(bob), nameOf(bob), messageOf(ann))
	// Users without rules are told of nothing, members or not, doubled too.
	tells(t, x, r, e, []string{cyd, "", "x", cyd}, nothing(cyd), nothing(""), nothing("x"), nothing(cyd))
	works(t, x, 0)
	tells(t, x, r, e, []string{"", bob, "@B:home", ann, cyd}, nothing(""), nameOf(bob), nothing("@B:home"), messageOf(ann), nothing(cyd))
	// Who is no member has rules, but no name in the room.
	apply(t, r, "m.room.member", bob, `{"membership":"leave","displayname":"Bob"}`)
	tells(t, x, r, e, []string{ann, bob}, pairOf(ann), pairOf(bob))
	x.Set("stranger", setOf(t, bob))
	tells(t, x, r, message(t, "hi b"), []string{"stranger"}, told("stranger", "content/.localpart", api.Actions{Notify: true, Highlight: true, Sound: "default"}))
	// The sender is asked like others.
	x.Set(cyd, setOf(t, cyd))
	tells(t, x, r, message(t, "I am Cyd"), []string{cyd}, nameOf(cyd))
}

// counts are so many users that goroutines have nothing, one, or several of them.
func counts() []int { return []int{1, 2, 3, 4, 5, 6, 7, 8, 9, 15, 16, 17, 60, 300} }

func nth(i int) string { return fmt.Sprintf("@u%d:home", i) }

func TestEvaluateOfMany(t *testing.T) {
	t.Parallel()
	for _, count := range counts() {
		one, own := newPair(t), newPair(t) // with one set, with sets of their own
		shared := setOf(t, ann)
		var users, members []string
		for i := range count {
			user := nth(i)
			users = append(users, user)
			if i < 50 && i%5 != 4 {
				members = append(members, user, fmt.Sprint("Name", i))
			}
			one.set(user, ann, shared)
			s := setOf(t, user)
			switch i % 7 {
			case 1:
				put(t, s, "sender", cyd, `{"actions":["notify"]}`)
			case 2:
				override(t, s, "mine", `{"kind":"contains_display_name"}`, `{"kind":"event_match","key":"content.body","pattern":"`+fmt.Sprint("name", i)+`"}`)
			case 3:
				enable(t, s, "override", ".name", false)
			case 4:
				enable(t, s, "override", ".master", true)
			case 5:
				own.set(user, user, s)
				s = nil
			}
			own.set(user, user, s)
		}
		r := roomOf(t, members...)
		for _, e := range []*room.Event{
			message(t, "Name0, name2 and NAME16 and name3"), message(t, "u5 u6 a"), message(t, ""),
			event(t, "@u3:home", "m.room.encrypted", ""), event(t, cyd, "M.Reaction", ""), event(t, cyd, "x", ""),
			event(t, nth(1), "m.room.message", `"msgtype":"M.NOTICE"`),
			event(t, cyd, "m.room.message", `"m.mentions":{"user_ids":["@u1:home","@u8:home"],"room":true}`),
		} {
			for _, p := range []*pair{one, own} {
				p.held(r, e, users)
				p.held(r, e, append(slices.Clone(users), users...))
			}
		}
	}
}

func TestEvaluateBehindChanges(t *testing.T) {
	t.Parallel()
	p := newPair(t)
	r := roomOf(t, ann, "Ann")
	s := setOf(t, ann)
	p.set(ann, ann, s)
	users := []string{ann}
	e := event(t, ann, "m.room.message", `"body":"hi Ann, hi Anna","m.mentions":{"room":true}`)
	want := func(rule string) {
		t.Helper()
		got := p.x.Evaluate(r, e, users)
		if len(got) != 1 || got[0].Rule != rule {
			t.Errorf("B2: %+v, want %s", got, rule)
		}
		p.held(r, e, users)
	}
	// The very same event, while the room changes.
	want("override/.name")
	want("override/.name")
	join(t, r, ann, "Bea")
	want("underride/.message")
	join(t, r, bob, "Bob")
	want("underride/.pair")
	join(t, r, cyd, "Cyd")
	want("underride/.message")
	apply(t, r, "m.room.create", "", `{}`) // so the sender has the level 100
	want("override/.everybody")
	apply(t, r, "m.room.power_levels", "", `{"users":{"@a:home":49}}`)
	want("underride/.message")
	apply(t, r, "m.room.power_levels", "", `{"users":{"@a:home":49},"notifications":{"room":49}}`)
	want("override/.everybody")
	apply(t, r, "m.room.power_levels", "", `{"users":{"@a:home":49},"notifications":{"room":50}}`)
	want("underride/.message")
	join(t, r, ann, "anna")
	want("override/.name")
	apply(t, r, "m.room.member", ann, `{"membership":"ban"}`)
	want("underride/.pair")
	// And while the rules do.
	override(t, s, "bodied", `{"kind":"event_match","key":"content.body","pattern":"HI"}`)
	want("underride/.pair")
	p.set(ann, ann, s)
	want("override/bodied")
	enable(t, s, "override", "bodied", false)
	want("override/bodied")
	p.set(ann, ann, s)
	want("underride/.pair")
	enable(t, s, "underride", ".pair", false)
	p.set(ann, ann, s)
	want("underride/.message")
	// Another room, another event, and the first again.
	other := roomOf(t, ann, "hi")
	tells(t, p.x, other, e, users, nameOf(ann))
	p.held(other, message(t, "x"), users)
	want("underride/.message")
}

func TestEvaluateOfForeignEvents(t *testing.T) {
	t.Parallel()
	// An event of another room is asked for as it is.
	x, r := New(), roomOf(t, ann, "Ann")
	s := setOf(t, ann)
	put(t, s, "room", "!other", `{"actions":[]}`)
	x.Set(ann, s)
	e := read(t, `{"event_id":"$1","room_id":"!other","sender":"@z:away","type":"m.room.message","content":{}}`)
	tells(t, x, r, e, []string{ann}, told(ann, "room/!other", api.Actions{}))
}
