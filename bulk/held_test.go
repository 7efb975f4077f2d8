package bulk

import (
	"fmt"
	"math/rand"
	"slices"
	"strings"
	"testing"

	"tocsin/api"
	"tocsin/room"
	"tocsin/rules"
)

// someConds are conditions of every kind: with a text and without one, Own and not, several with one name.
func someConds() []string {
	return []string{
		typed, reaction, sender, exact, small, missing, missingNo, yes, yesAlso, no, cake, display, display, weather,
		`{"kind":"event_match","key":"type","pattern":"M.ROOM.MESSAGE"}`,
		`{"kind":"event_match","key":"type","pattern":"m.*"}`,
		`{"kind":"event_match","key":"content.body","pattern":"CAKE"}`,
		`{"kind":"event_match","key":"content.x","pattern":""}`,
		`{"kind":"event_match","key":"content.m\\.x","pattern":"a"}`,
		`{"kind":"event_match","key":"room_id","pattern":"!R"}`,
		`{"kind":"event_property_is","key":"content.x","value":""}`,
		`{"kind":"event_property_is","key":"content.x","value":1}`,
		`{"kind":"event_property_is","key":"content.x","value":null}`,
		`{"kind":"event_property_is","key":"content.body","value":"cake"}`,
		`{"kind":"event_property_contains","key":"content.l","value":"a"}`,
		`{"kind":"sender_notification_permission","key":"room"}`,
		`{"kind":"sender_notification_permission","key":"x"}`,
		`{"kind":"room_member_count","is":">=02"}`,
		`{"kind":"room_member_count","is":"==2"}`,
	}
}

// A chance makes things up.
type chance struct {
	*rand.Rand
	t testing.TB
}

func (c chance) one(l ...string) string { return l[c.Intn(len(l))] }

func (c chance) user() string { return c.one(ann, bob, cyd, "@d:away", "", "x") }

func (c chance) rule() string {
	var conds []string
	for range c.Intn(4) {
		conds = append(conds, c.one(someConds()...))
	}
	actions := c.one(`[]`, `["notify"]`, `["notify",{"set_tweak":"highlight"}]`, `[{"set_tweak":"sound","value":"s"}]`)
	return `{"actions":` + actions + `,"conditions":[` + strings.Join(conds, ",") + `],"pattern":"` + c.one("cake", "C*", "hi", "a") + `"}`
}

// change does something to a set; it may be refused.
func (c chance) change(s *rules.Set) {
	kind := c.one("override", "content", "room", "sender", "underride")
	id := map[string]string{"room": c.one("!r", "!R", "!other"), "sender": c.one(ann, bob, cyd)}[kind]
	if id == "" {
		id = c.one("1", "2", "3", "4")
	}
	own := c.one(".master", ".notice", ".member", ".mention", ".name", ".everybody", ".reaction", ".edit", ".localpart", ".call", ".pair", ".message")
	switch c.Intn(8) {
	default:
		s.Put(kind, id, value(c.t, c.rule()), "", "")
	case 4:
		s.Delete(kind, id)
	case 5:
		s.Enable(kind, id, c.Intn(2) == 0)
	case 6:
		s.Enable(kind, own, c.Intn(5) > 0)
	case 7:
		s.SetActions(kind, c.one(id, own), value(c.t, `["notify",{"set_tweak":"sound","value":"t"}]`))
	}
}

func (c chance) event() *room.Event {
	content := []string{}
	for _, m := range [][]string{
		{"body", `"cake"`, `"Ann, a CAKE"`, `"hi bob"`, `"b"`, `""`, `7`, `["cake"]`},
		{"x", `"É"`, `"é"`, `""`, `1`, `null`, `"x"`},
		{"m.x", `"A"`, `"b"`, `{}`},
		{"l", `["a"]`, `[]`, `"a"`, `[1,"a"]`},
		{"msgtype", `"m.notice"`, `"m.text"`, `"M.Notice"`},
		{"m.mentions", `{"room":true}`, `{"user_ids":["@a:home"]}`, `{"user_ids":["@c:home","@b:home"],"room":true}`},
		{"m.relates_to", `{"rel_type":"m.replace"}`, `{"rel_type":"M.replace"}`},
	} {
		if c.Intn(3) == 0 {
			content = append(content, `"`+m[0]+`":`+c.one(m[1:]...))
		}
	}
	kind := c.one("m.room.message", "m.room.message", "M.Room.Message", "m.reaction", "m.room.encrypted", "m.call.invite", "x")
	return event(c.t, c.one(ann, bob, cyd), kind, strings.Join(content, ","))
}

func (c chance) happens(r *room.Room) {
	switch c.Intn(3) {
	case 0:
		apply(c.t, r, "m.room.power_levels", "", c.one(`{}`, `{"users":{"@a:home":50},"notifications":{"room":20}}`, `{"users_default":7,"notifications":{"x":7}}`))
	default:
		member := c.one(`{"membership":"join"}`, `{"membership":"join","displayname":"hi"}`, `{"membership":"join","displayname":"Ann"}`, `{"membership":"leave"}`)
		apply(c.t, r, "m.room.member", c.one(ann, bob, cyd, "@d:away"), member)
	}
}

func (c chance) users() []string {
	var users []string
	for range c.Intn(9) {
		users = append(users, c.user())
	}
	return users
}

func TestHeld(t *testing.T) {
	t.Parallel()
	work := map[int]int{}
	names := map[string]int{}
	for seed := range 300 {
		c := chance{rand.New(rand.NewSource(int64(seed))), t}
		r := roomOf(t, ann, "Ann", bob, "hi")
		p := newPair(t)
		// Each user's set, and that of whose name it is made.
		owners := []string{ann, bob, cyd}
		sets := []*rules.Set{setOf(t, ann), bare(t, bob), bare(t, cyd)}
		e := c.event()
		for range 60 {
			switch i := c.Intn(3); c.Intn(10) {
			case 0, 1, 2, 3:
				c.change(sets[i])
			case 4, 5:
				p.set(c.one(owners[i], c.user()), owners[i], sets[i])
			case 6:
				if c.Intn(3) == 0 {
					p.set(c.user(), "", nil)
				}
			case 7:
				c.happens(r)
			}
			if c.Intn(2) == 0 {
				e = c.event()
			}
			users := c.users()
			if !p.held(r, e, users) {
				t.Fatalf("at the seed %d", seed)
			}
			work[p.x.Work()]++
			for _, v := range p.m.evaluate(r, e, users) {
				kind, _, _ := strings.Cut(v.Rule, "/")
				names[kind]++
			}
		}
	}
	if len(work) < 15 || len(names) != 6 {
		t.Errorf("too few sorts of answers: works %v, kinds %v", work, names)
	}
}

func TestHeldByTwoConditions(t *testing.T) {
	t.Parallel()
	// All pairs of conditions: in one rule, and in two, at several events.
	conds := someConds()
	r := roomOf(t, ann, "Ann", bob, "hi")
	apply(t, r, "m.room.power_levels", "", `{"users":{"@c:home":7},"notifications":{"x":7}}`)
	events := []*room.Event{
		cakeMessage(t), message(t, "x"), event(t, cyd, "M.Reaction", `"x":"","l":["a"],"m.x":"a"`), event(t, bob, "x", `"x":1,"body":"CAKE"`),
	}
	for i, one := range conds {
		for j, other := range conds {
			p := newPair(t)
			s := bare(t, ann)
			override(t, s, "both", one, other)
			override(t, s, "other", other)
			p.set(ann, ann, s)
			s = bare(t, bob)
			override(t, s, "first", one)
			override(t, s, "second", other, one)
			p.set(bob, bob, s)
			for _, e := range events {
				if !p.held(r, e, []string{ann, bob}) || !p.held(r, e, []string{bob}) {
					t.Fatalf("at the conditions %d and %d", i, j)
				}
			}
		}
	}
}

// full has as many rules, and in some as many conditions, as there may be.
func (c chance) full(user string) *rules.Set {
	s := setOf(c.t, user)
	for _, kind := range []string{"override", "content", "room", "sender", "underride"} {
		for n := range api.MaxRules {
			id := map[string]string{"room": "!", "sender": "@"}[kind] + fmt.Sprint("n", n)
			word := fmt.Sprint("w", n)
			var conds []string
			for range 3 + c.Intn(api.MaxConds-2) {
				key := fmt.Sprint("content.k", c.Intn(40))
				conds = append(conds, c.one(
					`{"kind":"event_match","key":"`+key+`","pattern":"v"}`, `{"kind":"event_match","key":"`+key+`","pattern":"v*"}`,
					`{"kind":"event_match","key":"content.body","pattern":"`+word+`"}`, yesAlso, display, no))
			}
			put(c.t, s, kind, id, `{"actions":[],"pattern":"`+word+`","conditions":[`+strings.Join(conds, ",")+`]}`)
		}
	}
	return s
}

func TestHeldWithFullSets(t *testing.T) {
	t.Parallel()
	c := chance{rand.New(rand.NewSource(5)), t}
	p := newPair(t)
	var users, members []string
	for i := range 6 {
		user := nth(i)
		users = append(users, user)
		members = append(members, user, fmt.Sprint("w", i))
		p.set(user, user, c.full(user))
	}
	r := roomOf(t, members[:4]...)
	work := map[int]int{}
	for range 60 {
		content := []string{fmt.Sprintf(`"body":"w%d w%d"`, c.Intn(60), c.Intn(60))}
		for k := range 40 {
			if c.Intn(10) > 0 {
				content = append(content, fmt.Sprintf(`"k%d":"%s"`, k, c.one("v", "V", "v", "v", "v", "vv")))
			}
		}
		if !p.held(r, event(t, nth(c.Intn(6)), "m.room.message", strings.Join(content, ",")), turned(c.Rand, users)) {
			return
		}
		work[p.x.Work()]++
	}
	if len(work) < 20 {
		t.Errorf("too few sorts of work: %v", work)
	}
}

func TestTwoIndexes(t *testing.T) {
	t.Parallel()
	// By turns: neither knows of the other.
	c := chance{rand.New(rand.NewSource(3)), t}
	pairs := []*pair{newPair(t), newPair(t)}
	r := roomOf(t, ann, "Ann", bob, "hi")
	s := setOf(t, ann)
	for range 600 {
		p, other := pairs[0], pairs[1]
		if c.Intn(2) == 0 {
			p, other = other, p
		}
		c.change(s)
		if user := c.user(); c.Intn(4) == 0 {
			p.set(user, ann, nil)
		} else {
			p.set(user, ann, s)
		}
		work := other.x.Work()
		p.held(r, c.event(), c.users())
		works(t, other.x, work)
		if work != other.m.work {
			t.Errorf("B3: Work of the other one: %d, want %d", work, other.m.work)
		}
		if t.Failed() {
			return
		}
	}
	users := []string{ann, bob, cyd, "@d:away", "", "x"}
	e := message(t, "hi cake")
	pairs[0].x.Set(ann, nil)
	pairs[0].m.set(t, ann, ann, nil)
	for _, p := range pairs {
		p.held(r, e, users)
	}
	if slices.Equal(pairs[0].x.Evaluate(r, e, users), pairs[1].x.Evaluate(r, e, users)) {
		t.Errorf("both tell the same: nothing was held apart")
	}
}
