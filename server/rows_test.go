package server

import (
	"fmt"
	"math/rand"
	"strings"
	"testing"

	"tocsin/engine"
	"tocsin/jsonval"
)

// A talk makes commands by chance. An engine hears them, so that some are to what there is.
type talk struct {
	*rand.Rand
	engine     *engine.Engine
	ids, tried int
	now        int
}

func one[T any](r *rand.Rand, l ...T) T { return l[r.Intn(len(l))] }

func (k *talk) user() string {
	return one(k.Rand, "@a:home", "@a:home", "@b:home", "@c:home", "@d:away")
}

func (k *talk) room() string { return one(k.Rand, "!r", "!r", "!r", "!s") }

// id is mostly one that there was not yet; old is one of the last.
func (k *talk) id() string {
	if k.Intn(10) == 0 {
		return k.old()
	}
	k.ids++
	return fmt.Sprint("$", k.ids)
}

func (k *talk) old() string { return fmt.Sprint("$", max(1, k.ids-k.Intn(5))) }

// body is of any length, so that records end anywhere.
func (k *talk) body() string {
	return one(k.Rand, "hello", "hello a!", "B, c", "") + strings.Repeat("é", k.Intn(one(k.Rand, 1, 10, 40, 150)))
}

func (k *talk) happens() string {
	id, room, user := k.id(), k.room(), k.user()
	switch k.Intn(8) {
	case 0, 1:
		return member(id, room, user, one(k.Rand, "join", "join", "join", "leave", "ban"))
	case 2:
		return redaction(id, room, user, k.old())
	case 3:
		return event(id, room, user, one(k.Rand, "m.room.create", "m.room.power_levels", "m.reaction"), `"state_key":"","content":{"users":{"`+k.user()+`":60}}`)
	}
	return message(id, room, user, k.body())
}

func (k *talk) rule() string {
	kind, id := "override", one(k.Rand, "one", "two")
	if k.Intn(2) == 0 {
		kind, id = "room", k.room()
	}
	named := `"user":"` + one(k.Rand, "@a:home", "@a:home", k.user()) + `","kind":"` + kind + `","id":"` + id + `"}`
	switch k.Intn(5) {
	case 0:
		return `{"do":"delete_rule",` + named
	case 1:
		return `{"do":"enable_rule","enabled":` + one(k.Rand, "true", "false") + `,` + named
	case 2:
		return `{"do":"set_actions","actions":["notify"],` + named
	}
	return `{"do":"put_rule","rule":{"actions":` + one(k.Rand, "[]", `["notify",{"set_tweak":"highlight"}]`) + `},` + named
}

func (k *talk) post() string {
	switch k.Intn(6) {
	case 0:
		return setPusher(k.user(), one(k.Rand, "k", "l", ""))
	case 1:
		return `{"do":"remove_pusher","user":"` + k.user() + `","key":"` + one(k.Rand, "k", "l") + `"}`
	case 2, 3:
		k.now += one(k.Rand, -1, 0, 1, 3)
		return tick(k.now)
	}
	return fmt.Sprintf(`{"do":"reply","attempt":%d,"result":"%s"}`, k.tried-k.Intn(2), one(k.Rand, "ok", "ok", "fail", "rejected"))
}

func (k *talk) asks() string {
	return one(k.Rand, countsOf(k.user()), countsIn(k.user(), k.room()), pushersOf(k.user()), rulesOf(k.user()), `{"do":"room","room":"`+one(k.Rand, k.room(), "!x")+`"}`)
}

func (k *talk) wrong() string {
	return one(k.Rand, "", "x", "[]", "{", `{"do":"x"}`, `{"do":"event"}`, `{"do":"tick","now":1.5}`, `{"do":"event","event":{}}`, `{"do":"rotate","x":"`+k.body()+`"}`)
}

func (k *talk) command() string {
	switch k.Intn(13) {
	case 0, 1, 2, 3, 4:
		return k.happens()
	case 5, 6:
		return k.rule()
	case 7, 8:
		return k.post()
	case 9:
		return receipt(k.user(), k.room(), k.old())
	case 10:
		return one(k.Rand, `{"do":"rotate"}`, k.wrong())
	}
	return k.asks()
}

// hear lets the engine do a command, to learn which attempts there are.
func (k *talk) hear(command string) {
	v, err := jsonval.Parse([]byte(command))
	if err != nil {
		return
	}
	attempts := k.engine.Do(v).Get("attempts")
	if n := attempts.Len(); n > 0 {
		k.tried = int(attempts.Item(n - 1).Get("id").Number())
	}
}

// rowOf is a row of commands by chance, always the same for a seed.
func rowOf(seed int64, length int) []string {
	k := &talk{Rand: rand.New(rand.NewSource(seed)), engine: engine.New()}
	row := []string{joins(k.id(), "!r", "@a:home"), setPusher("@a:home", "k"), joins(k.id(), "!r", "@b:home")}
	for _, command := range row {
		k.hear(command)
	}
	for len(row) < length {
		command := k.command()
		k.hear(command)
		row = append(row, command)
	}
	return row
}

// changes tells whether a command changes something.
func changes(command string) bool {
	v, err := jsonval.Parse([]byte(command))
	return err == nil && engine.Changes(v)
}

func TestRowsHaveAllSorts(t *testing.T) { // else the tests by chance tell little
	seen := map[string]int{}
	for seed := range int64(20) {
		m := newModel(4000)
		for _, command := range rowOf(seed, 60) {
			answer := m.do(command)
			word := "other"
			if v, err := jsonval.Parse([]byte(command)); err == nil {
				word = v.Get("do").Text()
			}
			switch {
			case strings.Contains(answer, `"ok":true`):
				seen[word+" done"]++
			default:
				seen[word+" refused"]++
			}
			if strings.Contains(answer, `"attempts":[{`) {
				seen["attempts"]++
			}
		}
	}
	for _, word := range []string{"event", "put_rule", "delete_rule", "enable_rule", "set_actions", "receipt", "set_pusher", "remove_pusher", "tick", "reply", "rules", "counts", "pushers", "room"} {
		if seen[word+" done"] == 0 || seen[word+" refused"] == 0 {
			t.Errorf("%s: %d done, %d refused", word, seen[word+" done"], seen[word+" refused"])
		}
	}
	if seen["attempts"] == 0 || seen["other refused"] == 0 || seen["rotate done"] == 0 {
		t.Errorf("%v", seen)
	}
}
