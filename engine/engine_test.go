package engine

import (
	"fmt"
	"strconv"
	"strings"
	"sync"
	"testing"

	"tocsin/api"
	"tocsin/jsonval"
)

// What is exported is as it was given.
var (
	_ func() *Engine                               = New
	_ func(*Engine, *jsonval.Value) *jsonval.Value = (*Engine).Do
	_ func(*jsonval.Value) bool                    = Changes
	_ func(*Engine) []byte                         = (*Engine).Save
	_ func([]byte) (*Engine, api.Errno)            = Load
)

// The commands, as texts.

func event(id, room, sender, kind, more string) string {
	return `{"do":"event","event":{"event_id":"` + id + `","room_id":"` + room + `","sender":"` + sender + `","type":"` + kind + `",` + more + `}}`
}

func member(id, room, user, how string) string {
	return event(id, room, user, "m.room.member", `"state_key":"`+user+`","content":{"membership":"`+how+`"}`)
}

func joins(id, room, user string) string { return member(id, room, user, "join") }

func message(id, room, sender, body string) string {
	return event(id, room, sender, "m.room.message", `"content":{"body":"`+body+`"}`)
}

func redaction(id, room, sender, redacts string) string {
	return event(id, room, sender, "m.room.redaction", `"redacts":"`+redacts+`","content":{}`)
}

func putRule(user, kind, id, rule string) string {
	return `{"do":"put_rule","user":"` + user + `","kind":"` + kind + `","id":"` + id + `","rule":` + rule + `}`
}

func receipt(user, room, id string) string {
	return `{"do":"receipt","user":"` + user + `","room":"` + room + `","event":"` + id + `"}`
}

func countsOf(user string) string { return `{"do":"counts","user":"` + user + `"}` }

func countsIn(user, room string) string {
	return `{"do":"counts","user":"` + user + `","room":"` + room + `"}`
}

func rulesOf(user string) string { return `{"do":"rules","user":"` + user + `"}` }

func setPusher(user, key string) string {
	return `{"do":"set_pusher","user":"` + user + `","key":"` + key + `","format":"event_id_only"}`
}

func pushersOf(user string) string { return `{"do":"pushers","user":"` + user + `"}` }

func tick(now int) string { return `{"do":"tick","now":` + strconv.Itoa(now) + `}` }

func reply(attempt int, result string) string {
	return `{"do":"reply","attempt":` + strconv.Itoa(attempt) + `,"result":"` + result + `"}`
}

// The answers, as texts.

const done = `{"ok":true}`

func placed(place int, told ...string) string {
	return `{"ok":true,"place":` + strconv.Itoa(place) + `,"told":[` + strings.Join(told, ",") + `]}`
}

func toldOf(user, rule string, notify, highlight bool, sound string) string {
	return fmt.Sprintf(`{"highlight":%t,"notify":%t,"rule":"%s","sound":"%s","user":"%s"}`, highlight, notify, rule, sound, user)
}

// silent is who is told nothing of somebody's coming and going.
func silent(user string) string { return toldOf(user, "override/.member", false, false, "") }

func counters(unread, highlight int) string {
	return fmt.Sprintf(`{"highlight":%d,"ok":true,"unread":%d}`, highlight, unread)
}

// An asker asks an engine, and says what is wrong with what it answers.
type asker struct {
	testing.TB
	engine *Engine
}

func newAsker(t testing.TB) asker { return asker{t, New()} }

// wants gives a command, which is to be answered so.
func (a asker) wants(promise, command, answer string) {
	a.Helper()
	if got := a.engine.Do(value(command)).Print(); got != answer {
		a.Errorf("%s: %s:\n%s, want\n%s", promise, command, got, answer)
	}
}

// refuses gives a command that is to be answered by an error, and nothing else.
func (a asker) refuses(promise, command string, errno api.Errno) {
	a.Helper()
	before := string(a.engine.Save())
	a.wants(promise, command, `{"error":`+strconv.Itoa(int(errno))+`}`)
	if string(a.engine.Save()) != before {
		a.Errorf("%s, P2: %s has changed something", promise, command)
	}
}

// does gives commands that are to be done, and answers the last one's answer.
func (a asker) does(commands ...string) *jsonval.Value {
	a.Helper()
	var answer *jsonval.Value
	for _, command := range commands {
		answer = a.engine.Do(value(command))
		if !answer.Get("ok").True() || answer.Get("error") != nil {
			a.Fatalf("E2: %s: %s", command, answer.Print())
		}
	}
	return answer
}

func TestNewKnowsNothing(t *testing.T) { // E1
	a := newAsker(t)
	if s := string(a.engine.Save()); s != "\x00\x00\x00\x00\x00\x00\x02\x00" {
		t.Errorf("E1, E11: a new engine is saved as %q", s)
	}
	a.refuses("E1", `{"do":"room","room":"!r"}`, api.ErrState)
	a.wants("E1", countsOf("@a:home"), `{"ok":true,"rooms":[]}`)
	a.wants("E1", pushersOf("@a:home"), `{"ok":true,"pushers":[]}`)
	a.wants("E1", `{"do":"rotate"}`, `{"kept":0,"ok":true}`)
	a.wants("E1", tick(0), `{"attempts":[],"ok":true}`)
	a.wants("E1", joins("$1", "!r", "@a:home"), placed(1))
}

func TestExamplesOfTheChapter(t *testing.T) {
	a := newAsker(t)
	first := `{"do":"event","event":{"event_id":"$1","room_id":"!r","sender":"@a:home","type":"m.room.member","state_key":"@b:home","content":{"membership":"join"}}}`
	a.wants("E3", first, placed(1, silent("@b:home")))
	a.refuses("E3", first, 110)
	a.refuses("E2", `{"do":"rules"}`, 140)
	a.refuses("E2", `{"do":"rules","user":"@b"}`, 92)
	a.refuses("E2", `{"do":"rules","user":"@b:away"}`, 91)
	a.refuses("E2", `{"do":"room","room":"!x"}`, 2)
	a.wants("E5", `{"do":"tick","now":5}`, `{"attempts":[],"ok":true}`)
	a.refuses("E5", `{"do":"tick","now":4}`, 141)
	a.refuses("E2", `{"do":"delete_rule","user":"@b:home","kind":"content","id":"x"}`, 82)
	if n := len(a.engine.people); n != 0 {
		t.Errorf("E2: %d people", n)
	}
}

func TestExamplesOfTheWhole(t *testing.T) {
	a := newAsker(t)
	a.wants("E3", joins("$1", "!r:home", "@a:home"), `{"ok":true,"place":1,"told":[]}`)
	a.wants("E3", joins("$2", "!r:home", "@b:home"), `{"ok":true,"place":2,"told":[{"highlight":false,"notify":false,"rule":"override/.member","sound":"","user":"@a:home"}]}`)
	hello := message("$3", "!r:home", "@a:home", "hello")
	a.wants("E3", hello, `{"ok":true,"place":3,"told":[{"highlight":false,"notify":true,"rule":"underride/.pair","sound":"default","user":"@b:home"}]}`)
	a.refuses("E3", hello, 110)
	counts := `{"do":"counts","user":"@b:home","room":"!r:home"}`
	a.wants("E4", counts, `{"highlight":0,"ok":true,"unread":1}`)
	a.wants("E3", message("$4", "!r:home", "@a:home", "hello B!"), placed(4, toldOf("@b:home", "content/.localpart", true, true, "default")))
	a.wants("E4", counts, `{"highlight":1,"ok":true,"unread":2}`)
	a.wants("E2", receipt("@b:home", "!r:home", "$3"), `{"changed":true,"ok":true}`)
	a.wants("E4", counts, `{"highlight":1,"ok":true,"unread":1}`)
	a.does(redaction("$5", "!r:home", "@a:home", "$4"))
	a.wants("E4", counts, `{"highlight":0,"ok":true,"unread":0}`)
}

func TestChanges(t *testing.T) { // E10
	for _, do := range []string{"event", "put_rule", "delete_rule", "enable_rule", "set_actions", "receipt", "set_pusher", "remove_pusher", "tick", "reply", "rotate"} {
		for _, more := range []string{``, `,"user":1`, `,"event":null,"now":-1,"x":[]`} { // it looks at nothing else
			if !Changes(value(`{"do":"` + do + `"` + more + `}`)) {
				t.Errorf("E10: %s%s", do, more)
			}
		}
	}
	for _, do := range []string{"rules", "counts", "pushers", "room", "", "x", "Event", "event ", "rule", "put_rules"} {
		if Changes(value(`{"do":"` + do + `","user":"@a:home","room":"!r"}`)) {
			t.Errorf("E10: %s", do)
		}
	}
	for _, s := range []string{`null`, `true`, `1`, `"event"`, `[]`, `["do","event"]`, `[{"do":"event"}]`, `{}`, `{"do":null}`, `{"do":1}`, `{"do":["event"]}`, `{"do":{"do":"event"}}`, `{"Do":"event"}`, `{"x":{"do":"event"}}`} {
		if Changes(value(s)) {
			t.Errorf("E10: %s", s)
		}
	}
	if Changes(nil) || Changes(&jsonval.Value{}) {
		t.Error("E10, P1: no value changes something")
	}
}

func TestTime(t *testing.T) { // E5
	a := newAsker(t)
	none := `{"attempts":[],"ok":true}`
	a.refuses("E5", tick(-1), api.ErrTime)
	a.refuses("E5", tick(-api.MaxInt), api.ErrTime)
	a.wants("E5", tick(0), none)
	a.wants("E5", tick(7), none)
	a.wants("E5", tick(7), none)
	a.refuses("E5", tick(6), api.ErrTime)
	a.refuses("E5", tick(0), api.ErrTime)
	a.refuses("E5", tick(1000000001), api.ErrTime)
	a.refuses("E5", tick(api.MaxInt), api.ErrTime)
	a.wants("E5", tick(8), none)
	a.wants("E5", tick(1000000000), none)
	a.wants("E5", tick(1000000000), none)
	a.refuses("E5", tick(999999999), api.ErrTime)
	a.refuses("E5", tick(1000000001), api.ErrTime)
}

func TestAttempts(t *testing.T) { // E5
	a := newAsker(t)
	a.does(joins("$1", "!r", "@a:home"), joins("$2", "!r", "@b:home"), setPusher("@b:home", "l"), setPusher("@b:home", "k"), setPusher("@a:home", "z"),
		`{"do":"set_pusher","user":"@a:home","key":"y","format":"full"}`, message("$3", "!r", "@c:away", "hello b"))
	one := func(id int, user, key, payload string) string {
		return fmt.Sprintf(`{"id":%d,"key":"%s","payload":%s,"user":"%s"}`, id, key, quoted(payload), user)
	}
	ids := `{"counts":{"unread":1},"event_id":"$3","room_id":"!r"}`
	full := `{"counts":{"unread":1},"event":{"content":{"body":"hello b"},"event_id":"$3","room_id":"!r","sender":"@c:away","type":"m.room.message"},"tweaks":{"sound":"default"}}`
	a.wants("E5, P10", tick(3), `{"attempts":[`+one(1, "@a:home", "y", full)+`,`+one(2, "@a:home", "z", ids)+`,`+one(3, "@b:home", "k", ids)+`,`+one(4, "@b:home", "l", ids)+`],"ok":true}`)
	a.wants("E5", tick(3), `{"attempts":[],"ok":true}`)
	a.wants("E2", pushersOf("@a:home"), `{"ok":true,"pushers":[{"attempt":1,"dropped":0,"failures":0,"format":"full","key":"y","until":0,"waits":1},{"attempt":2,"dropped":0,"failures":0,"format":"event_id_only","key":"z","until":0,"waits":1}]}`)
}

func TestReplies(t *testing.T) { // E2: reply, with the time
	a := newAsker(t)
	a.does(joins("$1", "!r", "@a:home"), setPusher("@a:home", "k"), message("$2", "!r", "@b:away", "1"), message("$3", "!r", "@b:away", "2"), tick(10))
	for _, attempt := range []int{0, -1, 2, api.MaxInt, -api.MaxInt} {
		a.refuses("E2", reply(attempt, "ok"), api.ErrAttempt)
	}
	for _, result := range []string{"", "OK", "ok ", "failed", "reject"} {
		a.refuses("E2", reply(1, result), api.ErrArg)
		a.refuses("E2", reply(2, result), api.ErrArg)
	}
	a.wants("E2", reply(1, "fail"), done)
	a.refuses("E2", reply(1, "fail"), api.ErrAttempt)
	state := func(attempt, failures, until, waits int) string {
		return fmt.Sprintf(`{"ok":true,"pushers":[{"attempt":%d,"dropped":0,"failures":%d,"format":"event_id_only","key":"k","until":%d,"waits":%d}]}`, attempt, failures, until, waits)
	}
	a.wants("E2", pushersOf("@a:home"), state(0, 1, 12, 2))
	a.wants("E5", tick(11), `{"attempts":[],"ok":true}`)
	a.does(tick(12), tick(20))
	a.wants("E2", reply(2, "fail"), done) // at the time, not at that of the attempt
	a.wants("E2", pushersOf("@a:home"), state(0, 2, 24, 2))
	a.does(tick(24))
	a.wants("E2", reply(3, "ok"), done)
	a.wants("E2", pushersOf("@a:home"), state(0, 0, 0, 1))
	a.does(tick(24))
	a.wants("E2", reply(4, "rejected"), done)
	a.wants("E2", pushersOf("@a:home"), `{"ok":true,"pushers":[]}`)
	a.refuses("E2", reply(4, "rejected"), api.ErrAttempt)
	a.refuses("E2", `{"do":"remove_pusher","user":"@a:home","key":"k"}`, api.ErrNoPusher)
}

func TestReplyAtTheEndOfTime(t *testing.T) { // E2, E5
	a := newAsker(t)
	a.does(joins("$1", "!r", "@a:home"), setPusher("@a:home", "k"), message("$2", "!r", "@b:away", "1"), tick(1000000000))
	a.wants("E2", reply(1, "fail"), done)
	a.wants("E5", tick(1000000000), `{"attempts":[],"ok":true}`)
	a.wants("E2", pushersOf("@a:home"), `{"ok":true,"pushers":[{"attempt":0,"dropped":0,"failures":1,"format":"event_id_only","key":"k","until":1000000002,"waits":1}]}`)
}

func TestCounts(t *testing.T) { // E4
	a := newAsker(t)
	a.does(joins("$1", "!s", "@a:home"), joins("$2", "!r", "@a:home"), joins("$3", "!q", "@b:home"), joins("$4", "!ra", "@a:home"),
		message("$5", "!s", "@b:home", "hello a"), message("$6", "!s", "@b:home", "hello"), message("$7", "!ra", "@b:home", "hello"))
	a.wants("E4", countsOf("@a:home"), `{"ok":true,"rooms":[{"highlight":0,"room":"!r","unread":0},{"highlight":0,"room":"!ra","unread":1},{"highlight":1,"room":"!s","unread":2}]}`)
	a.wants("E4", countsIn("@a:home", "!s"), counters(2, 1))
	for _, room := range []string{"!r", "!q", "!x"} {
		a.wants("E4, E7", countsIn("@a:home", room), counters(0, 0))
	}
	a.wants("E4", countsOf("@b:home"), `{"ok":true,"rooms":[{"highlight":0,"room":"!q","unread":0}]}`)
	a.wants("E4, E7", countsOf("@x:home"), `{"ok":true,"rooms":[]}`)
	a.wants("E4, E7", countsIn("@x:home", "!s"), counters(0, 0))
	a.does(member("$8", "!s", "@a:home", "invite")) // and so is no member
	a.wants("E4", countsOf("@a:home"), `{"ok":true,"rooms":[{"highlight":0,"room":"!r","unread":0},{"highlight":0,"room":"!ra","unread":1}]}`)
	a.wants("E4", countsIn("@a:home", "!s"), counters(0, 0))
}

func TestCountsEndAt99(t *testing.T) { // E4, P7
	a := newAsker(t)
	a.does(joins("$j", "!r", "@a:home"), setPusher("@a:home", "k"))
	for n := range 101 {
		a.wants("E3", message(fmt.Sprint("$", n), "!r", "@b:away", "hello a"), placed(n+2, toldOf("@a:home", "content/.localpart", true, true, "default")))
		a.wants("P7", countsIn("@a:home", "!r"), counters(min(n+1, 99), min(n+1, 99)))
	}
	a.wants("E2", `{"do":"rotate"}`, `{"kept":101,"ok":true}`)
	a.wants("E2", receipt("@a:home", "!r", "$0"), `{"changed":true,"ok":true}`)
	a.wants("P7", countsIn("@a:home", "!r"), counters(99, 99))
	a.wants("E2", receipt("@a:home", "!r", "$3"), `{"changed":true,"ok":true}`)
	a.wants("P7", countsIn("@a:home", "!r"), counters(97, 97))
	a.wants("E2", `{"do":"rotate"}`, `{"kept":97,"ok":true}`)
}

func TestReceipts(t *testing.T) { // E2
	a := newAsker(t)
	a.does(joins("$1", "!r", "@a:home"), message("$2", "!r", "@b:away", "1"), message("$3", "!s", "@b:away", "2"), message("$4", "!r", "@b:away", "3"))
	a.wants("E4", countsIn("@a:home", "!r"), counters(2, 0))
	for _, c := range []struct {
		room, id string
		changed  bool
		unread   int
	}{
		{"!r", "$x", false, 2}, {"!r", "$3", false, 2}, {"!x", "$2", false, 2}, {"!s", "$2", false, 2},
		{"!r", "$2", true, 1}, {"!r", "$2", false, 1}, {"!r", "$1", false, 1}, {"!s", "$3", true, 1}, {"!r", "$4", true, 0}, {"!r", "$4", false, 0},
	} {
		a.wants("E2", receipt("@a:home", c.room, c.id), fmt.Sprintf(`{"changed":%t,"ok":true}`, c.changed))
		a.wants("P7", countsIn("@a:home", "!r"), counters(c.unread, 0))
	}
}

func TestRoomIsTold(t *testing.T) { // E2
	a := newAsker(t)
	a.does(joins("$1", "!r", "@a:home"), member("$2", "!r", "@b:away", "ban"))
	a.wants("E2", `{"do":"room","room":"!r"}`, `{"ok":true,"room":{"creator":"","default":0,"id":"!r","joined":1,"leveled":false,"levels":{},"needs":{},"users":{"@a:home":{"display":"","membership":"join"},"@b:away":{"display":"","membership":"ban"}}}}`)
	a.refuses("E2, E7", `{"do":"room","room":"!s"}`, api.ErrState)
}

func TestRules(t *testing.T) { // E2
	a := newAsker(t)
	a.does(putRule("@a:home", "content", "cake", `{"actions":["notify"],"pattern":"Cake"}`), putRule("@a:home", "content", "tea", `{"actions":[],"pattern":"tea"}`))
	own := `{"actions":["notify",{"set_tweak":"sound","value":"default"},{"set_tweak":"highlight","value":true}],"default":true,"enabled":true,"pattern":"a","rule_id":".localpart"}`
	cake := `{"actions":["notify"],"default":false,"enabled":true,"pattern":"cake","rule_id":"cake"}`
	tea := `{"actions":[],"default":false,"enabled":true,"pattern":"tea","rule_id":"tea"}`
	list := func(rules ...string) {
		t.Helper()
		if got, want := a.does(rulesOf("@a:home")).Get("rules").Get("content").Print(), "["+strings.Join(rules, ",")+"]"; got != want {
			t.Errorf("E2: rules: %s, want %s", got, want)
		}
	}
	list(tea, cake, own)
	a.wants("E2", `{"do":"put_rule","user":"@a:home","kind":"content","id":"tea","rule":{"actions":[],"pattern":"tea"},"after":"cake"}`, done)
	list(cake, tea, own)
	a.wants("E2", `{"do":"put_rule","user":"@a:home","kind":"content","id":"tea","rule":{"actions":[],"pattern":"tea"},"before":"cake","after":""}`, done)
	list(tea, cake, own)
	a.wants("E2", `{"do":"enable_rule","user":"@a:home","kind":"content","id":"cake","enabled":false}`, done)
	list(tea, strings.Replace(cake, `"enabled":true`, `"enabled":false`, 1), own)
	a.wants("E2", `{"do":"enable_rule","user":"@a:home","kind":"content","id":"cake","enabled":true}`, done)
	a.wants("E2", `{"do":"set_actions","user":"@a:home","kind":"content","id":"tea","actions":["notify"]}`, done)
	tea = strings.Replace(tea, `[]`, `["notify"]`, 1)
	list(tea, cake, own)
	a.wants("E2", `{"do":"delete_rule","user":"@a:home","kind":"content","id":"cake"}`, done)
	list(tea, own)
	for _, key := range []string{"override", "content", "room", "sender", "underride"} {
		if a.does(rulesOf("@b:home")).Get("rules").Get(key) == nil {
			t.Errorf("E2: no rules of %s", key)
		}
	}
	if got := a.does(rulesOf("@b:home")).Get("rules").Get("content").Print(); got != "["+strings.Replace(own, `"pattern":"a"`, `"pattern":"b"`, 1)+"]" {
		t.Errorf("E2: the server's own rules of @b:home: %s", got)
	}
}

func TestAnswersAreNewMemory(t *testing.T) { // P3
	a := newAsker(t)
	a.does(joins("$1", "!r", "@a:home"), setPusher("@a:home", "k"), message("$2", "!r", "@b:away", "1"))
	b := a.engine.Save()
	was := string(b)
	b = append(b[:0], strings.Repeat("\xff", len(b))...)
	full := b[:cap(b)]
	for i := range full {
		full[i] = 9
	}
	if string(a.engine.Save()) != was {
		t.Error("P3: who writes into what Save answers writes into the engine")
	}
	in := []byte(was)
	e, errno := Load(in)
	if errno != api.OK || string(in) != was {
		t.Fatalf("P3: Load: %d, and what was handed in is %q", errno, in)
	}
	for i := range in {
		in[i] = 7
	}
	if string(e.Save()) != was {
		t.Error("P3: Load keeps what it was handed")
	}
}

func TestCommandsStayAsTheyAre(t *testing.T) { // P3
	a := newAsker(t)
	for _, s := range goodCommands() {
		v := value(s)
		before := v.Print()
		a.engine.Do(v)
		Changes(v)
		if v.Print() != before {
			t.Errorf("P3: %s was changed to %s", before, v.Print())
		}
	}
}

func TestWrongArguments(t *testing.T) { // P1
	a := newAsker(t)
	for _, v := range []*jsonval.Value{nil, {}, jsonval.OfBool(true), jsonval.OfInt(1), jsonval.OfText("event"), jsonval.OfList(), jsonval.OfList(nil, nil), jsonval.OfMap(nil)} {
		if got := a.engine.Do(v).Print(); got != `{"error":140}` {
			t.Errorf("E2, P1: %s: %s", v.Print(), got)
		}
	}
	for _, b := range [][]byte{nil, {}, {0}, []byte(strings.Repeat("\xff", 100)), []byte(strings.Repeat("\x00", 100))} {
		if e, errno := Load(b); e != nil || errno != api.ErrWire {
			t.Errorf("E11, P1, P2: Load(%q): %v, %d", b, e != nil, errno)
		}
	}
}

func TestUnsoundCommands(t *testing.T) { // P1, P3a
	deep := jsonval.OfInt(1)
	for range 20000 {
		deep = jsonval.OfList(deep)
	}
	var many []*jsonval.Value
	for range 20000 {
		many = append(many, jsonval.OfText("notify"))
	}
	long := jsonval.OfText(strings.Repeat("x\xff", 100000))
	odd := []*jsonval.Value{deep, jsonval.OfList(many...), long, jsonval.OfMap(answer{"a": deep, "content": deep, "body": long}), jsonval.OfInt(1 << 62)}
	e := New()
	e.Do(value(joins("$1", "!r", "@a:home")))
	e.Do(value(setPusher("@a:home", "k")))
	for _, s := range goodCommands() {
		v := value(s)
		for i := range v.Len() {
			for _, x := range odd {
				c := answer{}
				for k := range v.Len() {
					c[v.Key(k)] = v.Item(k)
				}
				c[v.Key(i)] = x
				e.Do(jsonval.OfMap(c))
			}
		}
	}
	for _, x := range odd {
		body := answer{"event_id": jsonval.OfText("$" + strconv.Itoa(len(x.Print()))), "room_id": jsonval.OfText("!r"), "sender": jsonval.OfText("@b:away"), "type": jsonval.OfText("m.room.message")}
		body["content"] = jsonval.OfMap(answer{"body": x})
		e.Do(jsonval.OfMap(answer{"do": jsonval.OfText("event"), "event": jsonval.OfMap(body)}))
	}
	e.Do(value(tick(5)))
	e.Save()
}

func TestTwoEnginesByTurns(t *testing.T) { // P4
	one, two, alone := newPair(t), newPair(t), newPair(t)
	a, b, c := worldOf(one, 2), worldOf(two, 5), worldOf(alone, 2)
	for range 150 {
		one.do(a.command())
		two.do(b.command())
		alone.do(c.command())
	}
	if string(one.engine.Save()) != string(alone.engine.Save()) {
		t.Error("P4, E9: an engine knows of another one")
	}
}

func TestManyEnginesAtOnce(t *testing.T) { // P4, E9
	var all sync.WaitGroup
	saved := make([]string, 8)
	for i := range saved {
		all.Go(func() {
			e := New()
			w := worldOf(newPair(t), 4)
			for range 150 {
				s := w.command()
				e.Do(value(s))
				w.model.do(value(s))
			}
			saved[i] = string(e.Save())
		})
	}
	all.Wait()
	for _, s := range saved {
		if s != saved[0] || len(s) < 100 {
			t.Fatal("P4, E9: the same commands have made other engines")
		}
	}
}
