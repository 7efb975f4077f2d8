package engine

import (
	"fmt"
	"slices"
	"strings"
	"testing"

	"tocsin/api"
	"tocsin/jsonval"
)

// goodCommands is one of each kind, which is done, if they come in this order.
func goodCommands() []string {
	return []string{
		joins("$1", "!r", "@a:home"),
		`{"do":"put_rule","user":"@a:home","kind":"override","id":"one","rule":{"actions":[]}}`,
		`{"do":"put_rule","user":"@a:home","kind":"override","id":"two","rule":{"actions":[]},"before":"one","after":""}`,
		`{"do":"enable_rule","user":"@a:home","kind":"override","id":"one","enabled":false}`,
		`{"do":"set_actions","user":"@a:home","kind":"override","id":"one","actions":["notify"]}`,
		`{"do":"rules","user":"@a:home"}`,
		`{"do":"delete_rule","user":"@a:home","kind":"override","id":"two"}`,
		`{"do":"receipt","user":"@a:home","room":"!r","event":"$1"}`,
		`{"do":"counts","user":"@a:home","room":"!r"}`,
		`{"do":"set_pusher","user":"@a:home","key":"k","format":"full"}`,
		message("$2", "!r", "@b:away", "hello"),
		`{"do":"tick","now":5}`,
		`{"do":"reply","attempt":1,"result":"ok"}`,
		`{"do":"pushers","user":"@a:home"}`,
		`{"do":"remove_pusher","user":"@a:home","key":"k"}`,
		`{"do":"rotate"}`,
		`{"do":"room","room":"!r"}`,
	}
}

// inTurn calls for each of the good commands, with an engine that has done those ahead of it.
func inTurn(t *testing.T, try func(e *Engine, command *jsonval.Value)) {
	e := New()
	for _, s := range goodCommands() {
		try(e, value(s))
		if got := e.Do(value(s)); !got.Get("ok").True() {
			t.Fatalf("E2: %s: %s", s, got.Print())
		}
	}
}

// with is a command with another value at a key; nil: with none.
func with(command *jsonval.Value, key string, x *jsonval.Value) *jsonval.Value {
	members := answer{}
	for i := range command.Len() {
		members[command.Key(i)] = command.Item(i)
	}
	delete(members, key)
	if x != nil {
		members[key] = x
	}
	return jsonval.OfMap(members)
}

// oneOfEach is a value of each kind.
func oneOfEach() []*jsonval.Value {
	return []*jsonval.Value{value(`null`), value(`false`), value(`0`), value(`""`), value(`[]`), value(`{}`)}
}

// refusesAll wants that a command is answered by ErrCommand, and changes nothing.
func refusesAll(t *testing.T, e *Engine, command *jsonval.Value) {
	t.Helper()
	before := string(e.Save())
	if got := e.Do(command).Print(); got != `{"error":140}` {
		t.Errorf("E2: %s: %s, want 140", command.Print(), got)
	}
	if string(e.Save()) != before {
		t.Errorf("E2, P2: %s has changed something", command.Print())
	}
}

func TestWhatIsNoCommand(t *testing.T) { // E2
	inTurn(t, func(e *Engine, command *jsonval.Value) {
		for _, x := range oneOfEach() {
			refusesAll(t, e, x)
			refusesAll(t, e, with(command, "do", x)) // the empty text is no command either
		}
		do := command.Get("do").Text()
		for _, s := range []string{do + " ", " " + do, strings.ToUpper(do), do + "s", do[1:], do[:len(do)-1], "x"} {
			refusesAll(t, e, with(command, "do", jsonval.OfText(s)))
		}
		refusesAll(t, e, with(command, "do", nil))
		refusesAll(t, e, jsonval.OfList(command))
	})
}

func TestFieldsThatAreNotThere(t *testing.T) { // E2
	maybe := []string{"put_rule before", "put_rule after", "counts room"}
	inTurn(t, func(e *Engine, command *jsonval.Value) {
		for i := range command.Len() {
			key := command.Key(i)
			if key == "do" || slices.Contains(maybe, command.Get("do").Text()+" "+key) {
				continue
			}
			refusesAll(t, e, with(command, key, nil))
		}
	})
}

func TestFieldsInBracketsMayBeLeftOut(t *testing.T) { // E2
	a := newAsker(t)
	rule := `"user":"@a:home","kind":"override","id":"x","rule":{"actions":[]}`
	a.does(putRule("@a:home", "override", "one", `{"actions":[]}`))
	for _, more := range []string{``, `,"before":""`, `,"after":""`, `,"before":"","after":""`, `,"before":"one"`, `,"after":"one"`, `,"before":"one","after":""`, `,"before":"","after":"one"`} {
		a.wants("E2", `{"do":"put_rule",`+rule+more+`}`, done)
	}
	for _, more := range []string{`,"before":"one","after":"one"`, `,"before":"two"`, `,"after":"x"`} {
		a.refuses("E2", `{"do":"put_rule",`+rule+more+`}`, api.ErrPlace)
	}
	for _, x := range []string{"null", "true", "1", "[]", "{}"} {
		a.refuses("E2", `{"do":"put_rule",`+rule+`,"before":`+x+`}`, api.ErrCommand)
		a.refuses("E2", `{"do":"put_rule",`+rule+`,"after":`+x+`}`, api.ErrCommand)
		a.refuses("E2", `{"do":"counts","user":"@a:home","room":`+x+`}`, api.ErrCommand)
	}
	a.refuses("E2", `{"do":"counts","user":"@a:home","room":""}`, api.ErrID) // which is there
}

func TestFieldsOfOtherKinds(t *testing.T) { // E2
	inTurn(t, func(e *Engine, command *jsonval.Value) {
		for i := range command.Len() {
			key := command.Key(i)
			if key == "do" || key == "event" && command.Get("do").Text() == "event" {
				continue
			}
			for _, x := range oneOfEach() {
				if x.Kind() != command.Item(i).Kind() {
					refusesAll(t, e, with(command, key, x))
				}
			}
		}
	})
}

func TestOtherMembersAreLetBy(t *testing.T) { // E2
	e, plain := New(), New()
	for _, s := range goodCommands() {
		command := value(s)
		odd := command
		for _, key := range []string{"x", "", "ok", "error", "Do", "user", "room", "event", "kind", "id", "rule", "enabled", "actions", "key", "format", "now", "attempt", "result", "place"} {
			if fields, _ := modelFields(command.Get("do").Text()); !strings.Contains(" "+fields, " "+key+"=") {
				odd = with(odd, key, value(`[null]`))
			}
		}
		if got, want := e.Do(odd).Print(), plain.Do(command).Print(); got != want {
			t.Errorf("E2: %s: %s, want %s", odd.Print(), got, want)
		}
	}
	if string(e.Save()) != string(plain.Save()) {
		t.Error("E2: members that are no fields have changed something")
	}
}

func TestAnswersHaveNothingElse(t *testing.T) { // E2
	members := map[string]string{"event": "ok place told", "rules": "ok rules", "receipt": "changed ok", "counts": "highlight ok unread", "pushers": "ok pushers", "tick": "attempts ok", "rotate": "kept ok", "room": "ok room"}
	e := New()
	for _, s := range goodCommands() {
		command := value(s)
		got := e.Do(command)
		var keys []string
		for i := range got.Len() {
			keys = append(keys, got.Key(i))
		}
		want := members[command.Get("do").Text()]
		if want == "" {
			want = "ok"
		}
		if got.Kind() != jsonval.Object || strings.Join(keys, " ") != want {
			t.Errorf("E2: %s: %s, want %s", s, got.Print(), want)
		}
	}
}

// notNames are texts that are no users' names, no rooms', no events'.
func notNames(sign string) []string {
	long := strings.Repeat("x", 60)
	return []string{"", sign, "x", long, sign + long, sign + "é", sign + " ", sign + "\n", " " + sign + "x", sign + "x:home ", "@", "!", "$", "@:home", "@a", "@a:", "@A:home", "@a:home:1", "@" + strings.Repeat("a", 55) + ":home", "#x", "a:home"}
}

func TestNames(t *testing.T) { // E2
	a := newAsker(t)
	a.does(joins("$1", "!r", "@a:home"))
	give := func(command, key, s string) string { return with(value(command), key, jsonval.OfText(s)).Print() }
	for _, command := range goodCommands() {
		v := value(command)
		do := v.Get("do").Text()
		fields, _ := modelFields(do)
		if strings.Contains(fields, "user=") {
			for _, s := range append(notNames("@"), "!r", "$1") {
				a.refuses("E2", give(command, "user", s), api.ErrID)
			}
			for _, s := range []string{"@a:away", "@a:homes", "@a:hom", "@a:home.x", "@home:x"} {
				a.refuses("E2", give(command, "user", s), api.ErrForeign)
			}
		}
		if strings.Contains(fields, "room=") {
			for _, s := range append(notNames("!"), "$1", "@a:home") {
				a.refuses("E2", give(command, "room", s), api.ErrID)
			}
		}
		if do == "receipt" {
			for _, s := range append(notNames("$"), "!r", "@a:home") {
				a.refuses("E2", give(command, "event", s), api.ErrID)
			}
		}
	}
	longest := "@" + strings.Repeat("a", 54) + ":home"
	a.wants("E2", countsOf(longest), `{"ok":true,"rooms":[]}`)
	a.wants("E2", receipt(longest, "!"+strings.Repeat("r", 59), "$"+strings.Repeat("e", 59)), `{"changed":false,"ok":true}`)
}

func TestOrderOfErrors(t *testing.T) { // E2, P2
	a := newAsker(t)
	a.does(joins("$1", "!r", "@a:home"))
	for _, c := range []struct {
		command string
		errno   api.Errno
	}{
		// what is no command, ahead of names
		{`{"do":"receipt","user":"x","room":"!r","event":1}`, api.ErrCommand},
		{`{"do":"receipt","user":"@a:away","room":null,"event":"$1"}`, api.ErrCommand},
		{`{"do":"counts","user":"x","room":1}`, api.ErrCommand},
		{`{"do":"put_rule","user":"@a:away","kind":"x","id":".x","rule":{},"after":1}`, api.ErrCommand},
		{`{"do":"set_actions","user":"x","kind":"x","id":"x","actions":{}}`, api.ErrCommand},
		{`{"do":"set_pusher","user":"x","key":"","format":1}`, api.ErrCommand},
		{`{"do":"reply","attempt":"1","result":"x"}`, api.ErrCommand},
		// users, ahead of rooms, ahead of events
		{receipt("@a:away", "r", "1"), api.ErrForeign},
		{receipt("@a:away", "!r", "1"), api.ErrForeign},
		{receipt("a", "r", "1"), api.ErrID},
		{receipt("@a:home", "r", "$1"), api.ErrID},
		{receipt("@a:home", "!r", "1"), api.ErrID},
		{countsIn("@a:away", "r"), api.ErrForeign},
		{countsIn("a", "r"), api.ErrID},
		// names, ahead of what the layers say
		{putRule("@a:away", "x", ".x", `{}`), api.ErrForeign},
		{putRule("a", "x", ".x", `{}`), api.ErrID},
		{`{"do":"remove_pusher","user":"@a:away","key":"k"}`, api.ErrForeign},
		{`{"do":"set_pusher","user":"a","key":"","format":"x"}`, api.ErrID},
		{`{"do":"room","room":"r"}`, api.ErrID},
		// and these in their own order
		{putRule("@a:home", "x", ".x", `{}`), api.ErrKind},
		{putRule("@a:home", "override", ".x", `{}`), api.ErrDefault},
		{putRule("@a:home", "override", "x/", `{"actions":[],"conditions":[1]}`), api.ErrRule},
		{putRule("@a:home", "override", "x", `{"actions":[],"conditions":[1]}`), api.ErrCond},
		{`{"do":"put_rule","user":"@a:home","kind":"override","id":"x","rule":{"actions":[]},"before":"y"}`, api.ErrPlace},
		{`{"do":"delete_rule","user":"@a:home","kind":"x","id":".x"}`, api.ErrKind},
		{`{"do":"delete_rule","user":"@a:home","kind":"override","id":".master"}`, api.ErrDefault},
		{`{"do":"delete_rule","user":"@a:home","kind":"override","id":"x"}`, api.ErrNoRule},
		{`{"do":"enable_rule","user":"@a:home","kind":"x","id":"x","enabled":true}`, api.ErrKind},
		{`{"do":"enable_rule","user":"@a:home","kind":"override","id":".x","enabled":true}`, api.ErrNoRule},
		{`{"do":"set_actions","user":"@a:home","kind":"x","id":"x","actions":[1]}`, api.ErrKind},
		{`{"do":"set_actions","user":"@a:home","kind":"override","id":"x","actions":[1]}`, api.ErrNoRule},
		{`{"do":"set_actions","user":"@a:home","kind":"override","id":".master","actions":[1]}`, api.ErrRule},
		{`{"do":"set_pusher","user":"@a:home","key":"","format":"full"}`, api.ErrPusher},
		{`{"do":"set_pusher","user":"@a:home","key":"k","format":"x"}`, api.ErrPusher},
		{`{"do":"remove_pusher","user":"@a:home","key":""}`, api.ErrNoPusher},
		{reply(0, "x"), api.ErrArg},
		{reply(0, "ok"), api.ErrAttempt},
	} {
		a.refuses("E2", c.command, c.errno)
	}
}

func TestTooManyOfOneUser(t *testing.T) { // E2: what the layers bound
	a := newAsker(t)
	for n := range 40 {
		a.does(putRule("@a:home", "override", fmt.Sprint("r", n), `{"actions":[]}`))
	}
	a.refuses("E2", putRule("@a:home", "override", "more", `{"actions":[]}`), api.ErrMany)
	a.wants("E2", putRule("@a:home", "underride", "more", `{"actions":[]}`), done)
	for _, key := range []string{"k", "l", "m", "n"} {
		a.does(setPusher("@a:home", key))
	}
	a.refuses("E2", setPusher("@a:home", "o"), api.ErrMany)
	a.wants("E2", `{"do":"set_pusher","user":"@a:home","key":"n","format":"full"}`, done)
	a.wants("E2, E8", setPusher("@b:home", "o"), done)
}
