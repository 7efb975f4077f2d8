package engine

import (
	"fmt"
	"math/rand"
	"slices"
	"strings"
	"testing"

	"tocsin/jsonval"
	"tocsin/rules"
)

func TestRulesOfTheTimeOfTheEvent(t *testing.T) { // E6
	a := newAsker(t)
	a.does(joins("$j", "!r", "@a:home"))
	n := 0
	said := func(rule string, notify bool) {
		t.Helper()
		n++
		a.wants("E6", event(fmt.Sprint("$", n), "!r", "@b:away", "x", `"content":{}`), placed(n+1, toldOf("@a:home", rule, notify, false, "")))
	}
	said("", false)
	a.does(always("@a:home", `["notify"]`))
	said("override/always", true)
	a.wants("E6", countsIn("@a:home", "!r"), counters(1, 0))
	a.does(`{"do":"set_actions","user":"@a:home","kind":"override","id":"always","actions":[]}`)
	a.wants("E6, P7", countsIn("@a:home", "!r"), counters(1, 0)) // what was told was told
	said("override/always", false)
	a.does(`{"do":"enable_rule","user":"@a:home","kind":"override","id":"always","enabled":false}`)
	said("", false)
	a.does(`{"do":"enable_rule","user":"@a:home","kind":"override","id":".master","enabled":true}`)
	said("override/.master", false)
	a.does(`{"do":"enable_rule","user":"@a:home","kind":"override","id":".master","enabled":false}`, `{"do":"enable_rule","user":"@a:home","kind":"override","id":"always","enabled":true}`)
	said("override/always", false)
	a.does(putRule("@a:home", "override", "new", `{"actions":["notify"]}`))
	said("override/new", true)
	a.does(`{"do":"delete_rule","user":"@a:home","kind":"override","id":"new"}`, `{"do":"delete_rule","user":"@a:home","kind":"override","id":"always"}`)
	said("", false)
	a.wants("E6, P7", countsIn("@a:home", "!r"), counters(2, 0))
}

func TestRulesOfWhoComesAndGoes(t *testing.T) { // E6
	a := newAsker(t)
	silence := toldOf("@a:home", "override/always", false, false, "")
	a.does(always("@a:home", `[]`), joins("$1", "!r", "@a:home")) // rules that were there ahead of the room
	a.wants("E6", message("$2", "!r", "@b:away", "1"), placed(2, silence))
	a.does(joins("$3", "!s", "@a:home"), member("$4", "!r", "@a:home", "leave")) // and is still in another one
	a.wants("E6", message("$5", "!s", "@b:away", "1"), placed(5, silence))
	a.does(member("$6", "!s", "@a:home", "leave"), putRule("@a:home", "override", "late", `{"actions":["notify"]}`), joins("$7", "!r", "@a:home"))
	a.wants("E6", message("$8", "!r", "@b:away", "1"), placed(8, toldOf("@a:home", "override/late", true, false, "")))
	a.does(member("$9", "!r", "@a:home", "leave"), `{"do":"delete_rule","user":"@a:home","kind":"override","id":"late"}`, joins("$10", "!r", "@a:home"))
	a.wants("E6", message("$11", "!r", "@b:away", "1"), placed(11, silence))
	a.does(setPusher("@a:home", "k"), receipt("@a:home", "!r", "$11")) // which change no rules
	a.wants("E6", message("$12", "!r", "@b:away", "1"), placed(12, silence))
	b := asker{t, loaded(t, string(a.engine.Save()))}
	b.wants("E6, E11", message("$13", "!r", "@b:away", "1"), placed(13, silence))
}

func TestIndexHasTheMembersAlone(t *testing.T) { // LANGUAGE: no more is kept than is needed
	a := newAsker(t)
	a.does(joins("$1", "!r", "@a:home"), joins("$2", "!r", "@b:away"), joins("$3", "!s", "@a:home"), always("@c:home", `[]`))
	in := func(user string) bool {
		r := a.engine.rooms["!r"]
		e := eventOf(event("$x", "!r", "@x:home", "m.room.member", `"content":{}`))
		return a.engine.index.Evaluate(r, e, []string{user})[0].Rule != ""
	}
	for _, c := range []struct {
		command string
		a       bool
	}{{tick(0), true}, {member("$4", "!r", "@a:home", "leave"), true}, {member("$5", "!s", "@a:home", "leave"), false}, {always("@a:home", `[]`), false}, {joins("$6", "!s", "@a:home"), true}} {
		a.does(c.command)
		if in("@a:home") != c.a || in("@b:away") || in("@c:home") {
			t.Errorf("behind %s: %t %t %t are in the index", c.command, in("@a:home"), in("@b:away"), in("@c:home"))
		}
	}
}

func TestAskingMakesNothing(t *testing.T) { // E7
	for _, begin := range [][]string{nil, goodCommands()} {
		a := newAsker(t)
		a.does(begin...)
		before := string(a.engine.Save())
		for range 2 {
			for _, user := range []string{"@a:home", "@new:home"} {
				a.does(rulesOf(user), countsOf(user), pushersOf(user), countsIn(user, "!r"), countsIn(user, "!new"))
			}
			a.wants("E2", receipt("@new:home", "!new", "$1"), `{"changed":false,"ok":true}`)
			a.refuses("E7", `{"do":"room","room":"!new"}`, 2)
			a.refuses("E7", `{"do":"remove_pusher","user":"@new:home","key":"k"}`, 131)
			if string(a.engine.Save()) != before {
				t.Fatal("E7: asking has made something")
			}
		}
		if len(a.engine.rooms) > 1 || a.engine.people["@new:home"] != nil {
			t.Error("E7: asking has made something that is not saved")
		}
	}
}

// toldTo is what one of the users is told in all: of events, and of what that user asks.
func toldTo(t *testing.T, user string, commands []string) []string {
	e := New()
	var all []string
	for _, s := range commands {
		v := value(s)
		got := e.Do(v)
		if v.Get("do").Text() == "event" {
			told := got.Get("told")
			for i := range told.Len() {
				if told.Item(i).Get("user").Text() == user {
					all = append(all, told.Item(i).Print())
				}
			}
			all = append(all, got.Get("place").Print(), got.Get("error").Print())
		} else if v.Get("user").Text() == user {
			all = append(all, s+": "+got.Print())
		}
	}
	return all
}

func TestUsersDoNotChangeEachOther(t *testing.T) { // E8
	w := worldOf(newPair(t), 5)
	var whole, without []string
	for _, user := range []string{"@a:home", "@b:home", "@c:home"} {
		whole = append(whole, joins(w.newID(), "!r", user))
	}
	without = append(without, whole...)
	for range 400 {
		s := w.command()
		v := value(s)
		do, user := v.Get("do").Text(), v.Get("user").Text()
		if do == "tick" || do == "reply" { // the numbers of attempts are of all
			continue
		}
		whole = append(whole, s)
		if do == "event" || user == "@a:home" {
			without = append(without, s)
		}
		for _, ask := range []string{countsOf("@a:home"), rulesOf("@a:home"), pushersOf("@a:home")} {
			whole, without = append(whole, ask), append(without, ask)
		}
	}
	got, want := toldTo(t, "@a:home", whole), toldTo(t, "@a:home", without)
	for i := range want {
		if i >= len(got) || got[i] != want[i] {
			t.Fatalf("E8: %s, want %s", got[i], want[i])
		}
	}
	if len(got) != len(want) || len(without) == len(whole) {
		t.Errorf("E8: %d answers, want %d", len(got), len(want))
	}
}

func TestSameCommandsSameAnswers(t *testing.T) { // E9
	w := worldOf(newPair(t), 3)
	var commands []string
	for range 300 {
		commands = append(commands, w.command())
	}
	one, two := New(), New()
	for _, s := range commands {
		if got, want := one.Do(value(s)).Print(), two.Do(value(s)).Print(); got != want {
			t.Fatalf("E9: %s: %s and %s", s, got, want)
		}
		if string(one.Save()) != string(two.Save()) {
			t.Fatalf("E9: %s has made two that are not alike", s)
		}
	}
}

// A great room has all whom a room may know, most of them with rules of their own.
func greatRoom(t *testing.T, r *rand.Rand) (asker, map[string]*rules.Set) {
	a := newAsker(t)
	sets := map[string]*rules.Set{}
	for n := range 60 {
		user := fmt.Sprintf("@u%02d:home", n)
		a.does(event(fmt.Sprint("$j", n), "!r", user, "m.room.member", `"state_key":"`+user+`","content":{"membership":"join","displayname":"`+one(r, "Bea", "Cat", "")+`"}`))
		sets[user], _ = rules.New(user)
		for range r.Intn(6) {
			kind := one(r, "override", "content", "room", "sender", "underride")
			id := map[string]string{"override": one(r, "one", "two"), "content": "c", "room": "!r", "sender": one(r, "@u01:home", "@x:away"), "underride": "u"}[kind]
			rule := `{"actions":` + one(r, `[]`, `["notify"]`, `["notify",{"set_tweak":"highlight"}]`) + `,"pattern":"` + one(r, "hello", "c*") + `","conditions":[` +
				one(r, `{"kind":"event_match","key":"content.body","pattern":"*cat*"}`, `{"kind":"contains_display_name"}`, `{"kind":"room_member_count","is":"<60"}`) + `]}`
			a.does(putRule(user, kind, id, rule))
			sets[user].Put(kind, id, value(rule), "", "")
		}
	}
	return a, sets
}

func TestWhatEachIsToldIsWhatTheirRulesSay(t *testing.T) { // P6
	r := rand.New(rand.NewSource(6))
	a, sets := greatRoom(t, r)
	for n := range 40 {
		sender := one(r, "@u01:home", "@u07:home", "@x:away")
		command := event(fmt.Sprint("$", n), "!r", sender, one(r, "m.room.message", "m.reaction", "x"), `"content":{"body":"`+one(r, "hello", "hello Bea", "the cat of u05", "")+`"}`)
		told := a.does(command).Get("told")
		if n%10 == 9 {
			a.does(member(fmt.Sprint("$m", n), "!r", fmt.Sprintf("@u%02d:home", n), "leave"))
			continue
		}
		asked := 0
		for i, user := range rising(sets) {
			if user == sender || !a.engine.rooms["!r"].Is(user) {
				continue
			}
			asked++
			actions, rule := sets[user].Evaluate(a.engine.rooms["!r"].Facts(eventOf(command), user))
			want := toldOf(user, rule, actions.Notify, actions.Highlight, actions.Sound)
			if got := told.Item(asked - 1).Print(); got != want {
				t.Fatalf("P6, E3: %s: the %d. is told %s, want %s", command, i, got, want)
			}
		}
		if told.Len() != asked {
			t.Fatalf("E3: %d are told, want %d", told.Len(), asked)
		}
	}
}

// A reader has the notes of `@a:home` by what P7 says: those that were told, but for those that went.
type reader struct {
	notes []heard
}

type heard struct {
	number    int // of the event's name
	highlight bool
}

func (r *reader) hear(number int, told *jsonval.Value) {
	for i := range told.Len() {
		if one := told.Item(i); one.Get("user").Text() == "@a:home" && one.Get("notify").True() {
			r.notes = append(r.notes, heard{number, one.Get("highlight").True()})
		}
	}
}

func (r *reader) drop(gone func(number int) bool) {
	r.notes = slices.DeleteFunc(r.notes, func(n heard) bool { return gone(n.number) })
}

func (r *reader) highlights() int {
	many := 0
	for _, n := range r.notes {
		if n.highlight {
			many++
		}
	}
	return many
}

func TestCountersAreWhatP7Says(t *testing.T) { // P7
	for seed := range int64(6) {
		a, r, plain := newAsker(t), rand.New(rand.NewSource(seed)), &reader{}
		a.does(joins("$1", "!r", "@a:home"))
		for n := 2; n < 150; n++ {
			id := fmt.Sprint("$", n)
			read := max(1, n-r.Intn(12))
			switch r.Intn(12) {
			case 0:
				a.does(member(id, "!r", "@a:home", "leave"))
				plain.drop(func(int) bool { return true })
			case 1, 2:
				a.does(joins(id, "!r", "@a:home"))
			case 3:
				if a.does(receipt("@a:home", "!r", fmt.Sprint("$", read))).Get("changed").True() {
					plain.drop(func(number int) bool { return number <= read })
				}
				a.does(message(id, "!s", "@b:away", "hello a"))
			case 4:
				a.does(redaction(id, "!r", "@b:away", fmt.Sprint("$", read)))
				plain.drop(func(number int) bool { return number == read })
			default:
				plain.hear(n, a.does(message(id, "!r", "@b:away", one(r, "hello", "hello a"))).Get("told"))
			}
			a.wants("P7", countsIn("@a:home", "!r"), counters(len(plain.notes), plain.highlights()))
			if n%7 == 0 {
				a.wants("P7", `{"do":"rotate"}`, fmt.Sprintf(`{"kept":%d,"ok":true}`, len(plain.notes)))
			}
		}
	}
}

func TestPushersHearTheirNotesInOrder(t *testing.T) { // P10
	for seed := range int64(8) {
		a, r := newAsker(t), rand.New(rand.NewSource(seed))
		a.does(joins("$j", "!r", "@a:home"), setPusher("@a:home", "k"))
		var waiting []string
		now, until, failures, dropped, attempt, rejected := 0, 0, 0, 0, 0, false
		for n := range 250 {
			switch r.Intn(4) {
			case 0, 1:
				id := fmt.Sprint("$", n)
				a.does(message(id, "!r", "@b:away", "hello"))
				if waiting = append(waiting, id); len(waiting) > 8 {
					waiting, dropped, attempt = waiting[1:], dropped+1, 0
				}
			case 2:
				now += r.Intn(8)
				attempts := a.does(tick(now)).Get("attempts")
				if due := !rejected && attempt == 0 && len(waiting) > 0 && now >= until; (attempts.Len() == 1) != due {
					t.Fatalf("P10: at %d, till %d: %s", now, until, attempts.Print())
				}
				if attempts.Len() == 1 {
					attempt = int(attempts.Item(0).Get("id").Number())
					if payload := attempts.Item(0).Get("payload").Text(); !strings.Contains(payload, `"event_id":"`+waiting[0]+`"`) {
						t.Fatalf("P10: it hears %s, want %s", payload, waiting[0])
					}
				}
			default:
				if attempt == 0 {
					continue
				}
				result := one(r, "ok", "fail", "fail", "ok", "fail")
				if n > 230 && seed%2 == 0 {
					result = "rejected"
				}
				a.wants("E2", reply(attempt, result), done)
				a.refuses("E2", reply(attempt, result), 132)
				attempt = 0
				switch result {
				case "ok":
					waiting, failures, until = waiting[1:], 0, 0
				case "fail":
					failures++
					until = now + min(2<<(failures-1), 60)
				default:
					rejected = true
				}
			}
			if !rejected {
				a.wants("P10", pushersOf("@a:home"), fmt.Sprintf(`{"ok":true,"pushers":[{"attempt":%d,"dropped":%d,"failures":%d,"format":"event_id_only","key":"k","until":%d,"waits":%d}]}`, attempt, dropped, failures, until, len(waiting)))
			}
		}
	}
}
