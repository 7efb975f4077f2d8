package cond

import (
	"maps"
	"strings"
	"sync"
	"testing"
	"time"

	"tocsin/api"
	"tocsin/jsonval"
)

// The calls as they were given.
var (
	_ func(*jsonval.Value) (*Cond, api.Errno) = Parse
	_ func(*Cond) *jsonval.Value              = (*Cond).Print
	_ func(*Cond) string                      = (*Cond).Name
	_ func(*Cond) bool                        = (*Cond).Own
	_ func(*Cond, Facts) bool                 = (*Cond).Holds
	_ func(*Cond) (string, string, bool)      = (*Cond).Fixed
	_                                         = Facts{Event: (*jsonval.Value)(nil), Joined: int(0), Display: "", Level: int(0), Needs: map[string]int(nil)}
)

func value(t testing.TB, text string) *jsonval.Value {
	t.Helper()
	v, err := jsonval.Parse([]byte(text))
	if err != nil {
		t.Fatalf("J1: Parse(%s): %v", text, err)
	}
	return v
}

// parsed reads a condition that is one.
func parsed(t testing.TB, text string) *Cond {
	t.Helper()
	c, errno := Parse(value(t, text))
	if c == nil || errno != api.OK {
		t.Fatalf("C1: Parse(%s): %v, %d; want a condition, OK", text, c != nil, errno)
	}
	return c
}

// refused wants that a value is no condition.
func refused(t *testing.T, text string) {
	t.Helper()
	if c, errno := Parse(value(t, text)); c != nil || errno != api.ErrCond {
		t.Errorf("C1, P2: Parse(%s): %v, %d; want nil, ErrCond", text, c != nil, errno)
	}
}

// prints wants how a condition is written.
func prints(t *testing.T, text, want string) {
	t.Helper()
	if c := parsed(t, text); c.Print().Print() != want || c.Name() != want {
		t.Errorf("C2: %s prints %s, Name %s, want %s", text, c.Print().Print(), c.Name(), want)
	}
}

// holds wants an answer of a condition.
func holds(t *testing.T, text string, f Facts, want bool) {
	t.Helper()
	if got := parsed(t, text).Holds(f); got != want {
		t.Errorf("C4: %s at %s, %d, %q, %d, %v: Holds is %v", text, f.Event.Print(), f.Joined, f.Display, f.Level, f.Needs, got)
	}
}

// fixed wants what must stand where.
func fixed(t *testing.T, text, path, small string, ok bool) {
	t.Helper()
	if p, s, o := parsed(t, text).Fixed(); p != path || s != small || o != ok {
		t.Errorf("C5: Fixed of %s: %q, %q, %v; want %q, %q, %v", text, p, s, o, path, small, ok)
	}
}

func of(t *testing.T, event string) Facts { return Facts{Event: value(t, event)} }

func TestExamples(t *testing.T) {
	rooms := `{"kind":"event_match","key":"type","pattern":"M.Room.*"}`
	prints(t, rooms, `{"key":"type","kind":"event_match","pattern":"m.room.*"}`)
	holds(t, rooms, of(t, `{"type":"m.room.message"}`), true)
	fixed(t, rooms, "", "", false)
	fixed(t, `{"kind":"event_match","key":"type","pattern":"m.room.message"}`, "type", "m.room.message", true)

	cake := `{"kind":"event_match","key":"content.body","pattern":"cake"}`
	holds(t, cake, of(t, `{"content":{"body":"a CAKE!"}}`), true)
	holds(t, cake, of(t, `{"content":{"body":"cakes"}}`), false)
	escaped := `{"kind":"event_match","key":"content.m\\.x","pattern":"yes"}`
	holds(t, escaped, of(t, `{"content":{"m.x":"yes"}}`), true)
	holds(t, escaped, of(t, `{"content":{"m":{"x":"yes"}}}`), false)

	prints(t, `{"kind":"room_member_count","is":"==007"}`, `{"is":"7","kind":"room_member_count"}`)
	for _, is := range []string{`"=7"`, `""`, `"1234567890"`, `7`} {
		refused(t, `{"kind":"room_member_count","is":`+is+`}`)
	}

	null := `{"kind":"event_property_is","key":"a","value":null}`
	holds(t, null, of(t, `{}`), false)
	holds(t, null, of(t, `{"a":null}`), true)

	holds(t, `{"kind":"weather"}`, of(t, `{"kind":"weather","weather":true}`), false)
	refused(t, `{"kind":""}`)
	refused(t, `{}`)
	if c, errno := Parse(nil); c != nil || errno != api.ErrCond {
		t.Errorf("C1, P1: Parse(nil): %v, %d; want nil, ErrCond", c != nil, errno)
	}
	if c, errno := Parse(&jsonval.Value{}); c != nil || errno != api.ErrCond {
		t.Errorf("C1: Parse of a zero Value: %v, %d; want nil, ErrCond", c != nil, errno)
	}
}

func TestKindsBytes(t *testing.T) {
	for _, c := range []struct {
		kind string
		ok   bool
	}{
		{"", false}, {"k", true}, {strings.Repeat("k", 60), true}, {strings.Repeat("k", 61), false},
		{strings.Repeat("é", 30), true}, {strings.Repeat("é", 31), false}, {"\n", true}, {" ", true},
	} {
		text := `{"kind":` + jsonval.OfText(c.kind).Print() + `}`
		if !c.ok {
			refused(t, text)
			continue
		}
		prints(t, text, text)
		holds(t, text, Facts{}, false)
	}
}

func TestKindIsAText(t *testing.T) {
	for _, kind := range []string{`null`, `true`, `1`, `["event_match"]`, `{"kind":"contains_display_name"}`} {
		refused(t, `{"kind":`+kind+`,"key":"type","pattern":"*","value":1,"is":"2"}`)
	}
	for _, v := range []string{`null`, `false`, `0`, `"contains_display_name"`, `[]`, `["kind","contains_display_name"]`} {
		refused(t, v)
	}
}

// Each kind, and what it needs: without any of that, or with it of a type that it may not have, it is none.
func TestNeeds(t *testing.T) {
	for _, c := range []struct {
		kind  string
		needs map[string]string
		other map[string][]string
	}{
		{"event_match", map[string]string{"key": `"type"`, "pattern": `"x"`}, map[string][]string{
			"key": {`null`, `true`, `1`, `[]`, `["type"]`, `{}`, `"a\\b"`, `"\\"`}, "pattern": {`null`, `true`, `1`, `[]`, `["x"]`, `{}`, `"\\x"`, `"x\\"`}}},
		{"event_property_is", map[string]string{"key": `"type"`, "value": `null`}, map[string][]string{
			"key": {`null`, `true`, `1`, `[]`, `{}`, `"a\\b"`, `"\\"`}, "value": {`[]`, `{}`, `["x"]`, `{"a":1}`}}},
		{"event_property_contains", map[string]string{"key": `"type"`, "value": `"x"`}, map[string][]string{
			"key": {`null`, `true`, `1`, `[]`, `{}`, `"a\\b"`, `"\\"`}, "value": {`[]`, `{}`, `["x"]`, `{"a":1}`}}},
		{"contains_display_name", nil, nil},
		{"room_member_count", map[string]string{"is": `"2"`}, map[string][]string{
			"is": {`null`, `true`, `2`, `["2"]`, `{}`, `"<"`, `"x"`, `"2 "`}}},
		{"sender_notification_permission", map[string]string{"key": `"room"`}, map[string][]string{
			"key": {`null`, `true`, `1`, `["room"]`, `{}`, `""`}}},
		{"weather", nil, nil},
	} {
		written := func(needs map[string]string, others string) string {
			members := []string{"kind", `"` + c.kind + `"`}
			for k, v := range needs {
				members = append(members, k, v)
			}
			return strings.TrimSuffix(object(members...), "}") + others + "}"
		}
		alone := parsed(t, written(c.needs, ""))
		if with := parsed(t, written(c.needs, `,"Key":7,"x":[null],"rule":{"kind":1}`)); with.Name() != alone.Name() {
			t.Errorf("C1: other members beside %s: %s", alone.Name(), with.Name())
		}
		for k := range c.needs {
			less := maps.Clone(c.needs)
			delete(less, k)
			refused(t, written(less, ""))
			refused(t, written(less, `,"x":1,"`+strings.ToUpper(k)+`":`+c.needs[k]))
			for _, v := range c.other[k] {
				less[k] = v
				refused(t, written(less, ""))
			}
		}
	}
}

func TestEdgesOfKeysAndPatterns(t *testing.T) {
	for _, c := range []struct {
		size int
		ok   bool
	}{{0, true}, {1, true}, {60, true}, {61, true}, {200, true}, {201, false}} {
		key := strings.Repeat("k", c.size)
		for _, text := range []string{
			`{"key":"` + key + `","kind":"event_match","pattern":"x"}`,
			`{"key":"` + key + `","kind":"event_property_is","value":1}`,
			`{"key":"` + key + `","kind":"event_property_contains","value":1}`,
		} {
			if c.ok {
				prints(t, text, text)
			} else {
				refused(t, text)
			}
		}
		permission := `{"key":"` + key + `","kind":"sender_notification_permission"}`
		if c.size == 1 || c.size == 60 {
			prints(t, permission, permission)
		} else {
			refused(t, permission)
		}
	}
	prints(t, `{"kind":"sender_notification_permission","key":"a\\b"}`, `{"key":"a\\b","kind":"sender_notification_permission"}`)
	long := `{"key":"a","kind":"event_match","pattern":"` + strings.Repeat("x", 100) + `"}`
	prints(t, long, long)
	refused(t, strings.Replace(long, "x", "xx", 1))
}

func TestPrintInOneWay(t *testing.T) {
	for _, c := range [][2]string{
		{`{"pattern":"**?A?*","x":[1],"kind":"event_match","key":""}`, `{"key":"","kind":"event_match","pattern":"?*a?*"}`},
		{`{"kind":"event_match","key":"A.\\\\","pattern":"\\*\\?\\\\É"}`, `{"key":"A.\\\\","kind":"event_match","pattern":"\\*\\?\\\\é"}`},
		{`{"kind":"event_match","key":"a","pattern":""}`, `{"key":"a","kind":"event_match","pattern":""}`},
		{`{"value":"X\u00e9","key":"a.b","kind":"event_property_is"}`, `{"key":"a.b","kind":"event_property_is","value":"Xé"}`},
		{`{"value":-0,"key":"a.b","kind":"event_property_contains"}`, `{"key":"a.b","kind":"event_property_contains","value":0}`},
		{`{"value":null,"key":"a","kind":"event_property_is"}`, `{"key":"a","kind":"event_property_is","value":null}`},
		{`{"value":false,"key":"a","kind":"event_property_contains"}`, `{"key":"a","kind":"event_property_contains","value":false}`},
		{`{"kind":"contains_display_name","key":"x","is":"2"}`, `{"kind":"contains_display_name"}`},
		{`{"kind":"weather","key":"x","pattern":3,"value":1,"is":"2"}`, `{"kind":"weather"}`},
		{`{"kind":"sender_notification_permission","key":"Room"}`, `{"key":"Room","kind":"sender_notification_permission"}`},
	} {
		prints(t, c[0], c[1])
		prints(t, c[1], c[1])
	}
	for is, want := range map[string]string{
		"0": "0", "000000000": "0", "==0": "0", "==000000001": "1", "7": "7", "010": "10", "<00": "<0", ">007": ">7", "<=999999999": "<=999999999", ">=000000010": ">=10", "==123456789": "123456789",
	} {
		prints(t, `{"kind":"room_member_count","is":"`+is+`"}`, `{"is":"`+want+`","kind":"room_member_count"}`)
	}
}

func TestOwn(t *testing.T) {
	for text, want := range map[string]bool{
		`{"kind":"contains_display_name"}`:                                        true,
		`{"kind":"event_match","key":"content.body","pattern":"anna"}`:            false,
		`{"kind":"event_property_is","key":"display","value":"anna"}`:             false,
		`{"kind":"event_property_contains","key":"content.body","value":"x"}`:     false,
		`{"kind":"room_member_count","is":"2"}`:                                   false,
		`{"kind":"sender_notification_permission","key":"contains_display_name"}`: false,
		`{"kind":"own"}`: false,
	} {
		if parsed(t, text).Own() != want {
			t.Errorf("C3: Own of %s is %v", text, !want)
		}
	}
}

func TestBodyAndOthers(t *testing.T) {
	f := of(t, `{"content":{"body":"The CAKE, a lie!","Body":"a cake","body.":"a cake","x":{"body":"a cake"}},"body":"a cake","content.body":"a cake","a":{"content":{"body":"a cake"}}}`)
	match := func(key, pattern string) string {
		return object("kind", `"event_match"`, "key", jsonval.OfText(key).Print(), "pattern", jsonval.OfText(pattern).Print())
	}
	for _, key := range []string{"content.Body", `content.body\.`, "content.x.body", "body", `content\.body`, "a.content.body"} {
		holds(t, match(key, "cake"), f, false)
		holds(t, match(key, "A CAKE"), f, true)
		holds(t, match(key, "*cake"), f, true)
		fixed(t, match(key, "A Cake"), key, "a cake", true)
	}
	for pattern, want := range map[string]bool{"cake": true, "cake*lie": true, "": true, "lie": true, "li": false, "ake": false, "the": true, "*": true, "the cake, a lie!": true, "a?lie": true, "cakes": false} {
		holds(t, match("content.body", pattern), f, want)
	}
	fixed(t, match("content.body", "cake"), "", "", false)
	fixed(t, match("content.body", ""), "", "", false)
}

func TestWhatIsNotThere(t *testing.T) {
	conds := []string{
		`{"kind":"event_match","key":"a.b","pattern":"*"}`, `{"kind":"event_match","key":"content.body","pattern":""}`,
		`{"kind":"event_property_is","key":"a.b","value":null}`, `{"kind":"event_property_contains","key":"a.b","value":null}`, `{"kind":"contains_display_name"}`,
	}
	for _, c := range conds {
		holds(t, c, Facts{Display: "x"}, false)
		holds(t, c, Facts{Display: "x", Event: &jsonval.Value{}}, false)
		for _, event := range []string{`null`, `7`, `"a.b"`, `["a",{"b":null}]`, `{}`, `{"a":null,"content":null}`, `{"a":{},"content":{}}`, `{"a":[{"b":"x"}],"content":["body"]}`, `{"a.b":"x","content.body":"x"}`, `{"a":"b","content":"body"}`} {
			f := of(t, event)
			f.Display = "x"
			holds(t, c, f, false)
		}
	}
	f := of(t, `{"a":{"b":"x"},"content":{"body":"x"}}`)
	f.Display = "X"
	for i, c := range conds {
		holds(t, c, f, i != 2 && i != 3)
	}
	f = of(t, `{"a":{"b":null},"content":{"body":null}}`)
	f.Display = "x"
	for i, c := range conds {
		holds(t, c, f, i == 2)
	}
	f = of(t, `{"a":{"b":[1,null]},"content":{"body":["x"]}}`)
	f.Display = "x"
	for i, c := range conds {
		holds(t, c, f, i == 3)
	}
}

func TestPropertyIsTheSame(t *testing.T) {
	values := []string{`null`, `true`, `false`, `0`, `1`, `-1`, `9007199254740991`, `""`, `"x"`, `"X"`, `"null"`, `"1"`, `"true"`}
	for _, a := range values {
		for _, b := range values {
			holds(t, `{"kind":"event_property_is","key":"a","value":`+a+`}`, of(t, `{"a":`+b+`}`), a == b)
			holds(t, `{"kind":"event_property_is","key":"a","value":`+a+`}`, of(t, `{"a":[`+b+`]}`), false)
			contains := `{"kind":"event_property_contains","key":"a","value":` + a + `}`
			holds(t, contains, of(t, `{"a":`+b+`}`), false)
			holds(t, contains, of(t, `{"a":[`+b+`]}`), a == b)
			holds(t, contains, of(t, `{"a":[[`+a+`],{"a":`+a+`},`+b+`]}`), a == b)
			holds(t, contains, of(t, `{"a":[`+b+`,{}]}`), a == b)
			holds(t, contains, of(t, `{"a":[[`+a+`]]}`), false)
			holds(t, contains, of(t, `{"a":{"0":`+a+`}}`), false)
			holds(t, contains, of(t, `{"a":[]}`), false)
		}
	}
}

func TestDisplayName(t *testing.T) {
	c := `{"kind":"contains_display_name"}`
	for _, x := range []struct {
		body, name string
		want       bool
	}{
		{"Hi Anna!", "anna", true}, {"Hi Annabel", "anna", false}, {"Hi Anna!", "", false}, {"", "", false}, {"", "a", false},
		{"a (b) c", "(B)", true}, {"Hi Anna!", "hi anna", true}, {"Hi *!", "*", true}, {"Hi Anna!", "*", false}, {"Hi Anna!", "\xff", false}, {"ÉMILE", "émile", true},
	} {
		f := Facts{Event: jsonval.OfMap(map[string]*jsonval.Value{"content": jsonval.OfMap(map[string]*jsonval.Value{"body": jsonval.OfText(x.body)})}), Display: x.name}
		holds(t, c, f, x.want)
	}
	holds(t, c, Facts{Event: value(t, `{"body":"anna","content":{"Body":"anna"}}`), Display: "anna"}, false)
}

func TestMemberCount(t *testing.T) {
	const least, greatest = -1 << 63, 1<<63 - 1
	for _, x := range []struct {
		is      string
		yes, no []int
	}{
		{"2", []int{2}, []int{1, 3, 0, -2, least, greatest}},
		{"==2", []int{2}, []int{1, 3, 0, -2, least, greatest}},
		{"<2", []int{1, 0, -1, least}, []int{2, 3, greatest}},
		{">2", []int{3, greatest}, []int{2, 1, 0, -3, least}},
		{"<=2", []int{2, 1, 0, -1, least}, []int{3, greatest}},
		{">=2", []int{2, 3, greatest}, []int{1, 0, -2, least}},
		{"0", []int{0}, []int{1, -1}},
		{"<0", []int{-1, least}, []int{0, 1}},
		{">=0", []int{0, 1}, []int{-1}},
		{"<=000000000", []int{0, -1}, []int{1}},
		{"999999999", []int{999999999}, []int{999999998, 1000000000}},
		{">999999999", []int{1000000000}, []int{999999999}},
		{"010", []int{10}, []int{8}},
	} {
		c := `{"kind":"room_member_count","is":"` + x.is + `"}`
		for _, n := range x.yes {
			holds(t, c, Facts{Joined: n}, true)
		}
		for _, n := range x.no {
			holds(t, c, Facts{Joined: n}, false)
		}
	}
}

func TestPermission(t *testing.T) {
	room := `{"kind":"sender_notification_permission","key":"room"}`
	for _, needs := range []map[string]int{nil, {}, {"Room": 0}, {"": 0}, {"rooms": 100}} {
		for level, want := range map[int]bool{50: true, 49: false, 51: true, 0: false, -50: false, 1000: true} {
			holds(t, room, Facts{Level: level, Needs: needs}, want)
		}
	}
	for _, need := range []int{0, 20, -7, 60, -1 << 63, 1<<63 - 1} {
		needs := map[string]int{"room": need, "other": 3}
		for _, level := range []int{need, 0, 20, 19, -7, -8, 59, 61, -1 << 63, 1<<63 - 1} {
			holds(t, room, Facts{Level: level, Needs: needs}, level >= need)
		}
	}
	holds(t, `{"kind":"sender_notification_permission","key":"a.b"}`, Facts{Event: value(t, `{"a":{"b":1}}`), Level: 5, Needs: map[string]int{"a.b": 5}}, true)
}

func TestFixed(t *testing.T) {
	fixed(t, `{"kind":"event_match","key":"type","pattern":"M.Room.Message"}`, "type", "m.room.message", true)
	fixed(t, `{"kind":"event_match","key":"A\\.b","pattern":"X\\*\\\\"}`, `A\.b`, `x*\`, true)
	fixed(t, `{"kind":"event_match","key":"","pattern":""}`, "", "", true)
	fixed(t, `{"kind":"event_match","key":"type","pattern":"m?"}`, "", "", false)
	fixed(t, `{"kind":"event_match","key":"type","pattern":"*"}`, "", "", false)
	fixed(t, `{"kind":"event_property_is","key":"content.body","value":"CAKE É*"}`, "content.body", "cake é*", true)
	fixed(t, `{"kind":"event_property_is","key":"","value":""}`, "", "", true)
	for _, v := range []string{"null", "true", "false", "0", "7"} {
		fixed(t, `{"kind":"event_property_is","key":"a","value":`+v+`}`, "", "", false)
	}
	fixed(t, `{"kind":"event_property_contains","key":"a","value":"x"}`, "", "", false)
	fixed(t, `{"kind":"contains_display_name"}`, "", "", false)
	fixed(t, `{"kind":"room_member_count","is":"2"}`, "", "", false)
	fixed(t, `{"kind":"sender_notification_permission","key":"room"}`, "", "", false)
	fixed(t, `{"kind":"weather","key":"a","pattern":"x","value":"x"}`, "", "", false)
}

// one of each kind, and more than one way of some.
func conditions() []string {
	return []string{
		`{"key":"type","kind":"event_match","pattern":"m.*"}`, `{"key":"content.body","kind":"event_match","pattern":"cake"}`, `{"key":"type","kind":"event_match","pattern":"x"}`,
		`{"key":"type","kind":"event_property_is","value":"x"}`, `{"key":"content.l","kind":"event_property_contains","value":null}`,
		`{"kind":"contains_display_name"}`, `{"is":"<=2","kind":"room_member_count"}`, `{"is":">1","kind":"room_member_count"}`, `{"key":"room","kind":"sender_notification_permission"}`, `{"kind":"weather"}`,
	}
}

func TestNothingIsChanged(t *testing.T) {
	for _, text := range conditions() {
		v := value(t, text)
		c, _ := Parse(v)
		for _, f := range someFacts(t) {
			event, needs := f.Event.Print(), maps.Clone(f.Needs)
			first := c.Holds(f)
			if c.Holds(f) != first {
				t.Errorf("P4: %s answers otherwise, when asked again", text)
			}
			if f.Event.Print() != event || !maps.Equal(f.Needs, needs) || (f.Needs == nil) != (needs == nil) {
				t.Fatalf("P3, C4: %s has changed the facts", text)
			}
		}
		c.Own()
		c.Fixed()
		if c.Name() != text || c.Print().Print() != text || v.Print() != text {
			t.Errorf("P3: the condition %s was changed", text)
		}
	}
}

// What is kept of facts would show at others.
func TestFactsAreNotKept(t *testing.T) {
	needs := map[string]int{"room": 60}
	c := parsed(t, `{"key":"room","kind":"sender_notification_permission"}`)
	f := Facts{Level: 55, Needs: needs}
	if c.Holds(f) {
		t.Error("C4: 55 is at least 60")
	}
	needs["room"] = 55
	if !c.Holds(f) {
		t.Error("P3: needs that were handed in are kept")
	}
	delete(needs, "room")
	f.Level = 50
	if !c.Holds(f) {
		t.Error("P3: needs that were handed in are kept")
	}
}

func TestMadeValues(t *testing.T) {
	made := jsonval.OfMap(map[string]*jsonval.Value{"kind": jsonval.OfText("event_property_is"), "key": jsonval.OfText("a"), "value": nil})
	c, errno := Parse(made)
	if errno != api.OK || c.Name() != `{"key":"a","kind":"event_property_is","value":null}` {
		t.Fatalf("C1: Parse of a value that was made: %d", errno)
	}
	event := map[string]*jsonval.Value{"a": nil}
	if !c.Holds(Facts{Event: jsonval.OfMap(event)}) {
		t.Error("C4: a null that was made is there")
	}
}

// Of values that are not sound nothing is promised but that the calls end, and none panics.
func TestValuesThatAreNotSound(t *testing.T) {
	deep := jsonval.OfText("x")
	for range 60000 {
		deep = jsonval.OfList(deep)
	}
	long := jsonval.OfText(strings.Repeat("cake ", 100000))
	many := make([]*jsonval.Value, 10000)
	for _, v := range []*jsonval.Value{deep, long, jsonval.OfList(many...)} {
		for _, kind := range append(knownKinds(), "weather") {
			for _, member := range []string{"kind", "key", "pattern", "value", "is"} {
				members := map[string]*jsonval.Value{"kind": jsonval.OfText(kind), "key": jsonval.OfText("a"), "pattern": jsonval.OfText("x"), "value": nil, "is": jsonval.OfText("1")}
				members[member] = v
				if c, errno := Parse(jsonval.OfMap(members)); errno == api.OK {
					c.Name()
					c.Fixed()
					c.Holds(Facts{Event: v, Display: v.Text()})
				}
			}
		}
		event := jsonval.OfMap(map[string]*jsonval.Value{"type": v, "content": jsonval.OfMap(map[string]*jsonval.Value{"body": v, "l": jsonval.OfList(v)})})
		for _, text := range conditions() {
			parsed(t, text).Holds(Facts{Event: event, Display: "cake x", Needs: map[string]int{}})
		}
	}
}

func TestAskedFromSeveralGoroutines(t *testing.T) {
	facts := someFacts(t)
	for _, text := range conditions() {
		c := parsed(t, text)
		var want []bool
		for _, f := range facts {
			want = append(want, c.Holds(f))
		}
		var all sync.WaitGroup
		for range 4 {
			all.Go(func() {
				for i, f := range facts {
					if c.Holds(f) != want[i] || c.Name() != text {
						t.Errorf("C1, P4: %s answers otherwise beside others", text)
					}
					c.Fixed()
					c.Own()
				}
			})
		}
		all.Wait()
	}
}

func TestAtOnce(t *testing.T) {
	begin := time.Now()
	body := strings.Repeat("a ", 1900)
	f := Facts{Event: value(t, `{"content":{"body":"`+body+`"},"type":"`+strings.Repeat("a", 200)+`"}`), Display: strings.Repeat("A ", 900) + "b"}
	for _, text := range []string{
		`{"kind":"contains_display_name"}`, `{"kind":"event_match","key":"content.body","pattern":"` + strings.Repeat("a*", 49) + `b"}`,
		`{"kind":"event_match","key":"type","pattern":"` + strings.Repeat("*a", 49) + `b"}`,
	} {
		holds(t, text, f, false)
	}
	if took := time.Since(begin); took > 5*time.Second {
		t.Errorf("P1, G2: it took %v", took)
	}
}
