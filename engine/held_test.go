package engine

import (
	"encoding/json"
	"fmt"
	"math/rand"
	"strings"
	"testing"

	"tocsin/api"
	"tocsin/jsonval"
)

// A pair is an engine and its model, which are given the same.
type pair struct {
	testing.TB
	engine *Engine
	model  *model
	said   []string // what was done, for who reads of a fault
	ids    int      // how many names of events were given out
}

func newPair(t testing.TB) *pair { return &pair{TB: t, engine: New(), model: &model{}} }

// do wants that both answer the same, and know the same then.
func (p *pair) do(command string) {
	p.Helper()
	p.said = append(p.said, command)
	v := value(command)
	before := string(p.engine.Save())
	got, want := p.engine.Do(v).Print(), p.model.do(v)
	if got != want {
		p.Fatalf("E2 to E9, P6, P7, P10:\n%s:\n%s, want\n%s", strings.Join(p.said, "\n"), got, want)
	}
	p.same()
	refused := strings.HasPrefix(got, `{"error":`)
	if (refused || !Changes(v)) && string(p.engine.Save()) != before {
		p.Fatalf("E2, E7, P2:\n%s:\n%s has changed something", strings.Join(p.said, "\n"), command)
	}
}

func (p *pair) same() {
	p.Helper()
	if got, want := string(p.engine.Save()), p.model.save(); got != want {
		p.Fatalf("E11:\n%s:\nSave: %q, want\n%q", strings.Join(p.said, "\n"), got, want)
	}
}

// reload goes on with the engine that was saved and loaded.
func (p *pair) reload() {
	p.Helper()
	p.said = append(p.said, "Load of Save")
	e, errno := Load(p.engine.Save())
	if e == nil || errno != api.OK {
		p.Fatalf("E11:\n%s: %d", strings.Join(p.said, "\n"), errno)
	}
	p.engine = e
	p.same()
}

// newID is the name of an event that there was not yet; oldID is that of one of the last.
func (p *pair) newID() string {
	p.ids++
	return fmt.Sprint("$", p.ids)
}

func (p *pair) oldID(back int) string { return fmt.Sprint("$", max(1, p.ids-back)) }

// members are those of an Object.
type object = map[string]any

func written(v any) string {
	b, err := json.Marshal(v)
	if err != nil {
		panic(err)
	}
	return string(b)
}

// A world is what commands by chance are made of.
type world struct {
	*rand.Rand
	*pair
	users, rooms []string
	wrong        int // one command of so many is spoilt
}

func one[T any](r *rand.Rand, l ...T) T { return l[r.Intn(len(l))] }

func (w world) user() string { return one(w.Rand, w.users...) }
func (w world) room() string { return one(w.Rand, w.rooms...) }

// id is mostly one that there was not yet.
func (w world) id() string {
	if w.Intn(12) == 0 {
		return w.oldID(w.Intn(4))
	}
	return w.newID()
}

func (w world) event() object {
	e := object{"event_id": w.id(), "room_id": w.room(), "sender": w.user()}
	content := object{}
	switch w.Intn(12) {
	case 0, 1, 2:
		e["type"] = "m.room.member"
		e["state_key"] = one(w.Rand, e["sender"].(string), e["sender"].(string), w.user())
		content["membership"] = one(w.Rand, "join", "join", "join", "join", "join", "join", "leave", "leave", "invite", "ban", "x")
		content["displayname"] = one[any](w.Rand, "Bea", "a", 1)
	case 3, 4, 5, 6:
		e["type"] = "m.room.message"
		content["body"] = one[any](w.Rand, "hello", "hello a!", "B, c", "Bea is here", 1)
		content["msgtype"] = one(w.Rand, "m.text", "m.text", "m.notice")
	case 7:
		e["type"] = "m.room.message"
		content["m.mentions"] = object{"user_ids": []string{w.user()}, "room": w.Intn(2) == 0}
	case 8, 9:
		e["type"] = "m.room.redaction"
		e["redacts"] = one(w.Rand, w.oldID(w.Intn(6)), w.oldID(0), "$x")
	case 10:
		e["type"] = "m.room.power_levels"
		e["state_key"] = ""
		content["users"] = object{w.user(): 60}
		content["notifications"] = object{"room": one(w.Rand, 0, 50, 70)}
	default:
		e["type"] = one(w.Rand, "m.reaction", "m.room.encrypted", "m.call.invite", "m.room.create", "x")
		if w.Intn(2) == 0 {
			e["state_key"] = ""
		}
	}
	e["content"] = content
	return object{"do": "event", "event": e}
}

func (w world) actions() []any {
	return one(w.Rand, []any{}, []any{"notify"}, []any{"notify", object{"set_tweak": "highlight"}},
		[]any{"notify", object{"set_tweak": "sound", "value": "bell"}}, []any{object{"set_tweak": "sound", "value": "quiet"}}, []any{1})
}

func (w world) ruleID(kind string) string {
	switch {
	case kind == "x" || w.Intn(8) == 0:
		return one(w.Rand, "one", w.room(), w.user(), ".message", "a/b")
	case kind == "room":
		return w.room()
	case kind == "sender":
		return w.user()
	case kind == "content":
		return one(w.Rand, "one", ".localpart")
	case kind == "underride":
		return one(w.Rand, "one", ".message", ".pair")
	}
	return one(w.Rand, "one", "two", "one", "two", ".master", ".member", ".notice")
}

func (w world) rule() object {
	kind := one(w.Rand, "override", "content", "room", "sender", "underride", "override", "x")
	c := object{"user": w.user(), "kind": kind, "id": w.ruleID(kind)}
	switch w.Intn(7) {
	case 0, 1, 2:
		c["do"] = "put_rule"
		c["rule"] = object{"actions": w.actions(), "pattern": one(w.Rand, "hello", "b*"), "conditions": one(w.Rand, []any{},
			[]any{object{"kind": "event_match", "key": "type", "pattern": "m.room.red*"}},
			[]any{object{"kind": "contains_display_name"}, object{"kind": "room_member_count", "is": ">1"}}, []any{1})}
		if w.Intn(3) == 0 {
			c[one(w.Rand, "before", "after")] = one(w.Rand, "one", "two", "")
		}
	case 3:
		c["do"] = "delete_rule"
	case 4:
		c["do"], c["enabled"] = "enable_rule", w.Intn(3) > 0
	case 5:
		c["do"], c["actions"] = "set_actions", w.actions()
	default:
		c["do"] = "rules"
	}
	return c
}

func (w world) pusher() object {
	switch w.Intn(20) {
	case 0, 1, 2, 3:
		return object{"do": "set_pusher", "user": w.user(), "key": one(w.Rand, "k", "k", "l", "l", "m", "n", "o", "p q"), "format": one(w.Rand, "full", "full", "event_id_only", "event_id_only", "x")}
	case 4:
		return object{"do": "remove_pusher", "user": w.user(), "key": one(w.Rand, "k", "l")}
	case 5:
		return object{"do": "pushers", "user": w.user()}
	case 6, 7, 8, 9, 10, 11:
		return object{"do": "tick", "now": w.model.time + one(w.Rand, -1, 0, 1, 2, 5, 60)}
	}
	return object{"do": "reply", "attempt": w.model.tried - w.Intn(3), "result": one(w.Rand, "ok", "ok", "fail", "fail", "fail", "rejected", "x")}
}

func (w world) counter() object {
	switch w.Intn(6) {
	case 0, 1:
		return object{"do": "receipt", "user": w.user(), "room": w.room(), "event": w.oldID(w.Intn(8))}
	case 2:
		return object{"do": "rotate"}
	case 3:
		return object{"do": "room", "room": w.room()}
	case 4:
		return object{"do": "counts", "user": w.user(), "room": w.room()}
	}
	return object{"do": "counts", "user": w.user()}
}

// spoilt leaves a member out, or puts something else in its place.
func (w world) spoilt(c object) object {
	keys := rising(c)
	key := one(w.Rand, keys...)
	if inner, ok := c[key].(object); ok && len(inner) > 0 && w.Intn(2) == 0 {
		c[key] = w.spoilt(inner)
		return c
	}
	if w.Intn(4) == 0 {
		delete(c, key)
	} else {
		c[key] = one[any](w.Rand, nil, true, 0, -1, api.MaxInt, "", "x", "@x:home", "@x:away", "!x", "$x", []any{}, []any{1}, object{}, object{"a": 1})
	}
	return c
}

func (w world) command() string {
	var c object
	switch w.Intn(12) {
	case 0, 1, 2, 3, 4:
		c = w.event()
	case 5, 6:
		c = w.rule()
	case 7, 8, 9:
		c = w.pusher()
	default:
		c = w.counter()
	}
	if w.wrong > 0 && w.Intn(w.wrong) == 0 {
		c = w.spoilt(c)
	}
	return written(c)
}

func worldOf(p *pair, seed int64) world {
	w := world{Rand: rand.New(rand.NewSource(seed)), pair: p, users: []string{"@a:home", "@b:home", "@c:home", "@d:away"}, rooms: []string{"!r", "!s"}}
	switch seed % 3 {
	case 0: // much that is wrong
		w.users, w.rooms, w.wrong = append(w.users, "@e:home", "e"), append(w.rooms, "!q:x", "r"), 4
	case 1: // few, so that much comes together
		w.users, w.rooms = w.users[:2], w.rooms[:1]
	}
	return w
}

func TestRowsByChance(t *testing.T) {
	for seed := range int64(24) {
		t.Run(fmt.Sprint(seed), func(t *testing.T) {
			t.Parallel()
			for round := range int64(3) {
				w := worldOf(newPair(t), seed+24*round)
				if seed%3 > 0 {
					for _, user := range w.users {
						w.pair.do(joins(w.newID(), w.rooms[0], user))
					}
				}
				for range 120 {
					w.pair.do(w.command())
					if w.Intn(20) == 0 {
						w.reload()
					}
				}
			}
		})
	}
}

// someSteps are steps of `@a:home`, and of `@b:home` who talks to them.
func someSteps() []func(p *pair) {
	say := func(body string) func(p *pair) {
		return func(p *pair) { p.do(message(p.newID(), "!r", "@b:home", body)) }
	}
	do := func(command string) func(p *pair) { return func(p *pair) { p.do(command) } }
	return []func(p *pair){
		say("hello"),
		say("hello a"),
		func(p *pair) {
			p.do(event(p.newID(), "!r", "@b:home", "m.room.redaction", `"redacts":"`+p.oldID(1)+`","content":{}`))
		},
		func(p *pair) { p.do(member(p.newID(), "!r", "@a:home", "leave")) },
		func(p *pair) { p.do(joins(p.newID(), "!r", "@a:home")) },
		func(p *pair) { p.do(receipt("@a:home", "!r", p.oldID(0))) },
		do(`{"do":"put_rule","user":"@a:home","kind":"room","id":"!r","rule":{"actions":[]}}`),
		do(`{"do":"delete_rule","user":"@a:home","kind":"room","id":"!r"}`),
		do(setPusher("@a:home", "k")),
		func(p *pair) { p.do(tick(p.model.time + 1)) },
		func(p *pair) { p.do(reply(p.model.tried, "ok")) },
		func(p *pair) { p.do(reply(p.model.tried, "fail")) },
		(*pair).reload,
	}
}

func TestAllShortRows(t *testing.T) {
	for first, step := range someSteps() {
		t.Run(fmt.Sprint(first), func(t *testing.T) {
			t.Parallel()
			for _, second := range someSteps() {
				for _, third := range someSteps() {
					p := newPair(t)
					for _, command := range []string{joins(p.newID(), "!r", "@a:home"), joins(p.newID(), "!r", "@b:home"), setPusher("@a:home", "k"), message(p.newID(), "!r", "@b:home", "1"), tick(1)} {
						p.do(command)
					}
					step(p)
					second(p)
					third(p)
					p.do(`{"do":"counts","user":"@a:home"}`)
					p.do(`{"do":"pushers","user":"@a:home"}`)
				}
			}
		})
	}
}

// value reads a value that is one.
func value(s string) *jsonval.Value {
	v, err := jsonval.Parse([]byte(s))
	if err != nil {
		panic(s + ": " + err.Error())
	}
	return v
}
