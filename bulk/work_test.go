package bulk

import (
	"fmt"
	"math/rand"
	"slices"
	"testing"

	"tocsin/api"
	"tocsin/room"
)

// Conditions, by what they are for a message "hi cake" with "x":"É" in its content, in a room of two with the displays Ann and hi.
const (
	yes       = `{"kind":"room_member_count","is":"2"}`
	yesAlso   = `{"kind":"room_member_count","is":"<3"}`
	no        = `{"kind":"room_member_count","is":"3"}`
	cake      = `{"kind":"event_match","key":"content.body","pattern":"cake"}`
	display   = `{"kind":"contains_display_name"}`
	weather   = `{"kind":"weather"}`
	typed     = `{"kind":"event_match","key":"type","pattern":"m.room.message"}`
	reaction  = `{"kind":"event_match","key":"type","pattern":"m.reaction"}`
	sender    = `{"kind":"event_property_is","key":"sender","value":"@c:home"}`
	exact     = `{"kind":"event_property_is","key":"content.x","value":"É"}`
	small     = `{"kind":"event_property_is","key":"content.x","value":"é"}` // it fits, and does not hold
	missing   = `{"kind":"event_match","key":"content.none","pattern":"a"}`
	missingNo = `{"kind":"event_match","key":"content.none","pattern":"a*"}` // it has no text, so it fits
)

func cakeMessage(t testing.TB) *room.Event {
	return event(t, cyd, "m.room.message", `"body":"hi cake","x":"É"`)
}

// ruled is an index with one user, whose rules have these conditions, in this order.
func ruled(t testing.TB, conds ...[]string) *Index {
	t.Helper()
	x, s := New(), bare(t, ann)
	for i, c := range conds {
		override(t, s, fmt.Sprint(i), c...)
	}
	x.Set(ann, s)
	return x
}

func TestWorkOfOne(t *testing.T) {
	t.Parallel()
	r := roomOf(t, ann, "hi", bob, "Bob")
	type row = [][]string
	for i, c := range []struct {
		conds row
		rule  string // which of them tells; empty: none
		work  int
	}{
		{row{}, "", 0},
		{row{{}}, "0", 0},
		{row{{yes}}, "0", 1},
		{row{{no}}, "", 1},
		{row{{no, yes}}, "", 1}, // with the first that does not hold the rule is done
		{row{{yes, no}}, "", 2},
		{row{{yes, yesAlso, cake}}, "0", 3},
		{row{{yes, no, cake}}, "", 2},
		{row{{yes}, {cake}}, "0", 1}, // with the first rule that holds the user is done
		{row{{no}, {cake}}, "1", 2},
		{row{{}, {cake}}, "0", 0},
		{row{{weather}, {}}, "1", 1}, // a kind that is not known is asked, too
		// The same condition is asked once: in one rule, in several, and in other letters.
		{row{{yes, yes, yes}}, "0", 1},
		{row{{no}, {no}, {no, yes}}, "", 1},
		{row{{yes, no}, {no}, {yes, cake}}, "2", 3},
		{row{{`{"kind":"room_member_count","is":"==003"}`}, {no}, {`{"kind":"room_member_count","is":"03","x":1}`}}, "", 1},
		{row{{`{"kind":"event_match","key":"content.body","pattern":"CAKE"}`, no}, {cake}}, "1", 2},
		{row{{`{"kind":"room_member_count","is":"<=2"}`, no}, {yes, no}}, "", 3}, // of two that hold alike each is asked
		// Own ones.
		{row{{display}}, "0", 1},
		{row{{display, display, no}, {display}}, "1", 2},
		{row{{no, display}}, "", 1},
		// Rules that do not fit are not asked, nor any of their conditions.
		{row{{reaction}}, "", 0},
		{row{{yes, cake, display, reaction}}, "", 0},
		{row{{reaction, yes}, {cake}}, "1", 1},
		{row{{typed, reaction}}, "", 0},
		{row{{reaction, typed}}, "", 0},
		{row{{typed, sender, missing}}, "", 0},
		{row{{missing, typed}, {typed}}, "1", 1},
		{row{{reaction}, {yes, missing}, {}}, "2", 0},
		// Those that fit are, in full.
		{row{{typed}}, "0", 1},
		{row{{typed, sender, exact}}, "0", 3},
		{row{{yes, typed}, {cake}}, "0", 2},
		{row{{no, typed}, {typed, cake}}, "1", 3},
		{row{{small}}, "", 1},
		{row{{small, typed}, {exact}}, "1", 2},
		{row{{exact, small, yes}}, "", 2},
		{row{{missingNo}}, "", 1},
		// Their order is that of the rules, whatever they need.
		{row{{sender}, {typed}, {}}, "0", 1},
		{row{{typed, no}, {}, {sender}}, "1", 2},
		{row{{no}, {sender}, {yes}, {typed}}, "1", 2},
		{row{{sender, no}, {typed, no}, {exact}, {yes}}, "2", 4},
		{row{{exact, no}, {sender, no}, {no}, {typed, no}, {yes}}, "4", 5},
	} {
		x := ruled(t, c.conds...)
		want := nothing(ann)
		if c.rule != "" {
			want.Rule = "override/" + c.rule
		}
		for range 2 { // nothing is kept of what was asked
			tells(t, x, r, cakeMessage(t), []string{ann}, want)
			if x.Work() != c.work {
				t.Errorf("B3: row %d: Work of %q: %d, want %d", i, c.conds, x.Work(), c.work)
			}
		}
	}
}

func TestWorkOfTexts(t *testing.T) {
	t.Parallel()
	// What fits: a Text at the path which is written so in small letters; nothing else.
	r := roomOf(t)
	match := func(key, pattern string) string {
		return `{"kind":"event_match","key":"` + key + `","pattern":"` + pattern + `"}`
	}
	is := func(key, value string) string {
		return `{"kind":"event_property_is","key":"` + key + `","value":` + value + `}`
	}
	for _, c := range []struct {
		cond, content string
		work          int
	}{
		{match("content.x", "aB"), `"x":"Ab"`, 1},
		{match("content.x", "ab"), `"x":"abc"`, 0},
		{match("content.x", "ab"), `"x":" ab"`, 0},
		{match("content.x", "ab"), `"x":""`, 0},
		{match("content.x", "ab"), `"y":"ab"`, 0},
		{match("content.x", "ab"), `"x":["ab"]`, 0},
		{match("content.x", "ab"), `"x":{"ab":"ab"}`, 0},
		{match("content.x", "ab"), `"x":null`, 0},
		{match("content.x", "1"), `"x":1`, 0},
		{match("content.x", "true"), `"x":true`, 0},
		{match("content.x", "ab*"), `"x":1`, 1},
		{match("content.x", "a?"), ``, 1},
		{match("content.x", `a\\*`), `"x":"A*"`, 1},
		{match("content.x", `a\\*`), `"x":"ab"`, 0},
		{match("content.x", "ΣΊΣΥΦΟΣ"), `"x":"Σίσυφος"`, 1},
		{match("content.body", "ab"), `"body":"x"`, 1}, // a body may have it among others
		{match("content.body", "ab"), ``, 1},
		{match(`content.m\\.x.y`, "ab"), `"m.x":{"y":"AB"}`, 1},
		{match(`content.m\\.x.y`, "ab"), `"m":{"x":{"y":"AB"}}`, 0},
		{match("content.", "ab"), `"":"ab"`, 1},
		{match("content.x", ""), `"x":""`, 1},
		{match("content.x", ""), `"x":" "`, 0},
		{match("content.x", ""), ``, 0}, // the empty text is not nothing
		{match("content.x", ""), `"x":[]`, 0},
		{is("content.x", `""`), `"x":""`, 1},
		{is("content.x", `""`), ``, 0},
		{is("content.x", `""`), `"x":null`, 0},
		{is("content.x", `"AB"`), `"x":"ab"`, 1},
		{is("content.x", `"AB"`), `"x":"a"`, 0},
		{is("content.x", `"1"`), `"x":1`, 0},
		{is("content.x", `1`), `"x":"1"`, 1},
		{is("content.x", `null`), ``, 1},
		{is("content.x", `true`), `"x":7`, 1},
		{is("content.body", `"ab"`), `"body":"x"`, 0},
		{is("content.body", `"ab"`), `"body":"AB"`, 1},
		{`{"kind":"event_property_contains","key":"content.x","value":"ab"}`, ``, 1},
	} {
		p := newPair(t)
		s := bare(t, ann)
		override(t, s, "0", c.cond)
		p.set(ann, ann, s)
		e := event(t, cyd, "x", c.content)
		p.held(r, e, []string{ann})
		if p.x.Work() != c.work {
			t.Errorf("B3: Work of %s at {%s}: %d, want %d", c.cond, c.content, p.x.Work(), c.work)
		}
	}
}

func TestWorkOfNobody(t *testing.T) {
	t.Parallel()
	r, e := roomOf(t, ann, "Ann"), message(t, "hi")
	x := New()
	works(t, x, 0)
	x.Set(ann, setOf(t, ann))
	works(t, x, 0) // it was not asked yet
	x.Set(ann, nil)
	works(t, x, 0)
	tells(t, x, r, e, nil)
	works(t, x, 0)
	tells(t, x, r, e, []string{ann, bob, ""}, nothing(ann), nothing(bob), nothing(""))
	works(t, x, 0)
	x.Set(ann, setOf(t, ann))
	tells(t, x, r, e, []string{ann}, messageOf(ann))
	works(t, x, 6)
	works(t, x, 6) // to tell it changes nothing
	x.Set(ann, nil)
	works(t, x, 6) // it is that of the last Evaluate, whatever was Set since
	tells(t, x, r, e, []string{ann}, nothing(ann))
	works(t, x, 0)
	x.Set(ann, setOf(t, ann))
	tells(t, x, r, e, []string{ann}, messageOf(ann))
	works(t, x, 6)
	tells(t, x, r, e, nil)
	works(t, x, 0)
}

func TestWorkOfDisabled(t *testing.T) {
	t.Parallel()
	// What is not enabled is not asked.
	x, r, e := New(), roomOf(t, ann, "hi", bob, "Bob"), cakeMessage(t)
	s := bare(t, ann)
	x.Set(ann, s)
	tells(t, x, r, e, []string{ann}, nothing(ann))
	works(t, x, 0)
	override(t, s, "off", no, display, yes)
	override(t, s, "on", cake)
	for _, c := range []struct {
		on   bool
		work int
	}{{false, 1}, {true, 2}, {false, 1}} {
		enable(t, s, "override", "off", c.on)
		x.Set(ann, s)
		tells(t, x, r, e, []string{ann}, told(ann, "override/on", api.Actions{}))
		works(t, x, c.work)
	}
	// With the master on, nothing is asked.
	s = setOf(t, ann)
	override(t, s, "cake", cake)
	enable(t, s, "override", ".master", true)
	x.Set(ann, s)
	tells(t, x, r, e, []string{ann}, told(ann, "override/.master", api.Actions{}))
	works(t, x, 0)
}

func TestWorkOfSeveral(t *testing.T) {
	t.Parallel()
	r, e := roomOf(t, ann, "hi", bob, "Bob"), cakeMessage(t)
	x := New()
	lay := func(user string, conds ...[]string) {
		t.Helper()
		s := bare(t, ann)
		for i, c := range conds {
			override(t, s, fmt.Sprint(i), c...)
		}
		x.Set(user, s)
	}
	work := func(want int, users ...string) {
		t.Helper()
		x.Evaluate(r, e, users)
		works(t, x, want)
	}
	// One that is not Own is asked once for all.
	lay(ann, []string{cake})
	lay(bob, []string{cake})
	lay(cyd, []string{no}, []string{`{"kind":"event_match","key":"content.body","pattern":"Cake","x":1}`})
	work(1, ann)
	work(1, ann, bob)
	work(2, cyd)
	work(2, ann, bob, cyd)
	work(2, cyd, ann)
	// One that is Own is asked once for each user: who has a display and who has none.
	lay(ann, []string{display})
	lay(bob, []string{display}, []string{display, yes})
	lay(cyd, []string{display, cake}, []string{cake})
	work(1, ann)
	work(1, bob)
	work(2, ann, bob)
	work(4, ann, bob, cyd)
	work(0)
	// Who stands there twice is one user.
	work(1, ann, ann)
	work(2, bob, ann, bob, ann, bob)
	work(4, cyd, cyd, bob, ann, ann, cyd)
	work(1, "nobody", ann, "nobody")
	// Rules of others that do not fit are not asked, those that fit are.
	lay(ann, []string{reaction, cake}, []string{yes})
	lay(bob, []string{reaction, cake}, []string{typed, no}, []string{yes})
	work(1, ann)
	work(3, bob)
	work(3, bob, ann)
	work(5, bob, ann, cyd, cyd) // ann: yes; bob: typed, no, yes; cyd: display, cake
}

// turned gives the users in another order, some of them several times.
func turned(rnd *rand.Rand, users []string) []string {
	all := slices.Clone(users)
	for range rnd.Intn(len(users) + 1) {
		all = append(all, users[rnd.Intn(len(users))])
	}
	rnd.Shuffle(len(all), func(i, j int) { all[i], all[j] = all[j], all[i] })
	return all
}

func TestWorkHangsOnNoOrder(t *testing.T) {
	t.Parallel()
	p := newPair(t)
	var users, members []string
	for i := range 30 {
		user := nth(i)
		users = append(users, user)
		members = append(members, user, fmt.Sprint("name", i))
		s := setOf(t, user)
		if i%2 == 0 {
			override(t, s, "x", `{"kind":"event_match","key":"content.body","pattern":"`+fmt.Sprint("name", i%10)+`"}`, display)
		}
		if i%3 == 0 {
			put(t, s, "content", "y", `{"actions":[],"pattern":"`+fmt.Sprint("name", i%6)+`"}`)
		}
		p.set(user, user, s)
	}
	r := roomOf(t, members...)
	rnd := rand.New(rand.NewSource(1))
	for _, body := range []string{"", "name0", "name4 name8 name12", "u0 u1 u2", "name29 name3"} {
		e := message(t, body)
		p.x.Evaluate(r, e, users)
		work := p.x.Work()
		for range 40 {
			all := turned(rnd, users)
			p.held(r, e, all)
			works(t, p.x, work)
		}
		// What follows: at most each condition of theirs once, and one more for each user with one that is Own.
		most := map[string]bool{}
		for _, user := range users {
			for rule := range p.m.sets[user].All() {
				for _, c := range rule.Conds {
					if !c.Own() {
						most[c.Name()] = true
					}
				}
			}
		}
		if work > len(most)+len(users) {
			t.Errorf("B3: Work %d, more than %d", work, len(most)+len(users))
		}
	}
}
