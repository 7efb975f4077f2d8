package cond

import (
	"fmt"
	"math/rand"
	"strings"
	"testing"

	"tocsin/api"
	"tocsin/jsonval"
	"tocsin/sign"
)

// What a member may be, as it is written; "" is: it is not there.

var anyOther = []string{"", "null", "true", "7", `[]`, `["x"]`, `{}`, `{"a":1}`}

func keyTexts() []string {
	keys := append([]string{}, anyOther...)
	for _, k := range []string{
		"", "type", "TYPE", "a", "a.b", "a..b", ".", "..", "content", "content.body", "Content.body", "content.Body", "body", "content.body.", ".content.body",
		"content.body.x", "content..body", "body.content", `content\.body`, `content.m\.x`, "content.m.x", `content.\\`, `\\`, `\.`, `\\.a`,
		"l", "content.l", "content.l.0", "n", "n.n", "é", "content.é", "room", "low", "\x01", "\"", "\n",
		`\`, `a\`, `\a`, `a\b`, `content.body\`, `\é`, `\*`, `\\\`,
		strings.Repeat("k", 60), strings.Repeat("k", 61), strings.Repeat("é", 30), strings.Repeat("é", 30) + "k",
		strings.Repeat("k", 199), strings.Repeat("k", 200), strings.Repeat("k", 201), strings.Repeat("é", 100), strings.Repeat("é", 100) + "k",
	} {
		keys = append(keys, jsonval.OfText(k).Print())
	}
	return keys
}

func patternTexts() []string {
	patterns := append([]string{}, anyOther...)
	for _, p := range []string{
		"", "*", "?", "**", "*?", "??*?", "x", "X", "m.room.message", "M.Room.*", "*.message", "cake", "CAKE", "cak", "cak*", "c?ke", "the cake", "é", "É", "y?s",
		`\*`, `\?`, `\\`, `a\*B`, `\`, `a\`, `\a`, `\é`, "\"", "\x01", "5", "null", "Σ", "ς", "e, an*",
		strings.Repeat("x", 100), strings.Repeat("x", 101), strings.Repeat("é", 50), strings.Repeat("é", 50) + "x",
		strings.Repeat("?", 100), strings.Repeat("*", 100), strings.Repeat("*", 101), strings.Repeat(`\*`, 50),
	} {
		patterns = append(patterns, jsonval.OfText(p).Print())
	}
	return patterns
}

func valueTexts() []string {
	values := append([]string{"false", "0", "-0", "5", "-5", "1", "9007199254740991", "-9007199254740991"}, anyOther...)
	for _, s := range []string{"", "x", "X", "y", "yes", "m.room.message", "M.ROOM.Message", "The CAKE, Anna!", "5", "null", "true", "É", "Σ", "\x01", "\\", "[]", strings.Repeat("v", 300)} {
		values = append(values, jsonval.OfText(s).Print())
	}
	return values
}

func isTexts() []string {
	is := append([]string{}, anyOther...)
	for _, size := range []string{"", "==", "<", ">", "<=", ">=", "=", "===", "=<", "=>", "<>", "><", "<<", ">>", "<==", ">==", "!=", "!", "≤", "+", "-", " ", "== ", "<=<"} {
		for _, digits := range []string{
			"", "0", "1", "2", "3", "9", "00", "007", "10", "12345678", "123456789", "999999999", "000000000", "000000002", "1234567890", "0000000002", "99999999999999999999",
			" 2", "2 ", "2\n", "-2", "+2", "2.0", "2e0", "0x2", "1_0", "٢", "２", "2<", "2=", "a", "1a2", "2x",
		} {
			is = append(is, jsonval.OfText(size+digits).Print())
		}
	}
	return is
}

func kindTexts() []string {
	kinds := append([]string{}, anyOther...)
	for _, k := range append(knownKinds(), "", "w", "weather", "Event_match", "event_match ", "event", "é", "\x01", "\"", "never", "kind",
		strings.Repeat("k", 59), strings.Repeat("k", 60), strings.Repeat("k", 61), strings.Repeat("é", 30), strings.Repeat("é", 30)+"k", "event_match"+strings.Repeat("h", 49)) {
		kinds = append(kinds, jsonval.OfText(k).Print())
	}
	return kinds
}

func knownKinds() []string {
	return []string{"event_match", "event_property_is", "event_property_contains", "contains_display_name", "room_member_count", "sender_notification_permission"}
}

// object writes members that are there: keys and values by turns.
func object(members ...string) string {
	var out []string
	for i := 0; i < len(members); i += 2 {
		if members[i+1] != "" {
			out = append(out, fmt.Sprintf("%q:%s", members[i], members[i+1]))
		}
	}
	return "{" + strings.Join(out, ",") + "}"
}

func eventTexts() []string {
	return []string{
		`null`, `true`, `5`, `"x"`, `[]`, `["x",{"type":"x"}]`, `{}`, `{"content":null}`, `{"content":"body"}`, `{"content":[{"body":"cake"}]}`, `{"content":{}}`,
		`{"type":"m.room.message","sender":"@a:home","state_key":null,"":7,"content":{"body":"The CAKE, Anna!","m.x":"yes","l":["x",1,null,["y"]],"n":5,"o":{"p":true}},"room":"x"}`,
		`{"type":"","content":{"body":"","é":"É","l":[]},"l":[[],{},null,true,false,0,-5,"5"],"a":{"b":null,"":{"b":5},"c":1},"n":{"n":-5},"low":true,"TYPE":"X"}`,
		`{"type":"M.ROOM.Message","content":{"body":"x","Body":"cake","l":"x","\\":"*"},"content.body":"cake","\\":"\\","a":"x","l":["X","The CAKE, Anna!"],".":"a*b",".content":{"body":"5"}}`,
		`{"type":null,"content":{"body":null,"m":{"x":"yes"},"l":{"0":"x"}},"a":[1],"Content":{"body":"cake"},"body":{"content":"cake"},"n":9007199254740991,"":{"":{"":"x"}}}`,
		`{"type":5,"content":{"body":5,"":{"body":"cake"}},"a":{"b":true,"":{"b":null}},"n":0,"":{"":"","content":{"body":"cake"}},"\u0001":"\u0001","é":"Σ","l":[[null],["x"],[5]]}`,
		`{"type":"cake","content":{"body":["cake","x"],"é":["É"]},"a":{"b":"x","":"x"},"é":["é"],"\"":"\"","\n":7,"l":[]}`,
		`{"type":"the cakes","content":{"body":{"x":"cake"}},"` + strings.Repeat("k", 200) + `":"x","` + strings.Repeat("é", 100) + `":"é"}`,
		`{"content":{"body":"a cake*é? \\* cakes, ς Σίσυφος: 5! \\ x"},"type":"*"}`,
		`{"content":{"body":"cakes"},"type":"?"}`,
		`{"content":{"body":"` + strings.Repeat("x", 100) + ` y"},"type":"` + strings.Repeat("é", 50) + `"}`,
	}
}

// someFacts are facts of every event, with all others by turns, so that each is below, at and above what is asked.
func someFacts(t testing.TB) []Facts {
	needs := []map[string]int{nil, {}, {"room": 60, "low": -1, "": 0}, {"room": 50, "k": 7, strings.Repeat("k", 60): 51, "type": -7, "a.b": 0}, {strings.Repeat("é", 30): 49, "content.body": 1001}}
	joined := []int{2, 0, 1, 3, -1, 7, 6, 8, 123456789, 123456788, 999999999, 1000000000, -1 << 63, 1<<63 - 1, 9, 10, 11, 12345678}
	levels := []int{50, 49, 51, 0, -1, -2, 60, 59, 100, -1 << 63, 1<<63 - 1, 7, -7, -8}
	displays := []string{"anna", "", "ANNA!", "ann", "the cake", "x", "\xff", "é", "\\", " "}
	events := []*jsonval.Value{nil, {}}
	for _, e := range eventTexts() {
		events = append(events, value(t, e))
	}
	var all []Facts
	for i := range 4 * len(events) {
		all = append(all, Facts{
			Event: events[i%len(events)], Joined: joined[i%len(joined)], Display: displays[i*7%len(displays)], Level: levels[i*5%len(levels)], Needs: needs[i*3%len(needs)],
		})
	}
	return all
}

// A holder holds conditions against the model, at the same facts.
type holder struct {
	t     *testing.T
	facts []Facts
	names map[string]string // of each Name the answers of Holds
	tried map[string]int    // how many of each kind were there, and how many held
}

func newHolder(t *testing.T) *holder {
	return &holder{t, someFacts(t), map[string]string{}, map[string]int{}}
}

// hold tries one condition.
func (h *holder) hold(text string) {
	h.t.Helper()
	v := value(h.t, text)
	want, ok := modelParse(v.Print())
	c, errno := Parse(v)
	if !ok {
		if c != nil || errno != api.ErrCond {
			h.t.Errorf("C1, P2: Parse(%s): %v, %d; want nil, ErrCond", text, c != nil, errno)
		}
		h.tried["wrong"]++
		return
	}
	if c == nil || errno != api.OK {
		h.t.Errorf("C1: Parse(%s): %v, %d; want a condition, OK", text, c != nil, errno)
		return
	}
	h.tells(v, c, want)
	if _, had := h.names[c.Name()]; !had {
		h.names[c.Name()] = h.answers(c, want)
		again, errno := Parse(c.Print())
		if errno != api.OK || again.Print().Print() != c.Print().Print() || h.answers(again, want) != h.names[c.Name()] {
			h.t.Errorf("C2: Parse of what %s prints is another one", text)
		}
	} else if h.answers(c, want) != h.names[c.Name()] {
		h.t.Errorf("C2: two conditions with the Name %s hold at other facts", c.Name())
	}
	if v.Print() != value(h.t, text).Print() || c.Print().Print() != want.print {
		h.t.Errorf("P3: %s was changed, by what was asked", text)
	}
}

// tells asks for all but Holds.
func (h *holder) tells(v *jsonval.Value, c *Cond, want told) {
	h.t.Helper()
	if got := c.Print(); got.Print() != want.print || got.Kind() != jsonval.Object || c.Name() != want.print {
		h.t.Errorf("C2: %s prints %s, Name %s, want %s", v.Print(), got.Print(), c.Name(), want.print)
	}
	if len(c.Print().Print()) > len(v.Print()) {
		h.t.Errorf("C2: %s prints longer: %s", v.Print(), c.Print().Print())
	}
	if c.Own() != want.own {
		h.t.Errorf("C3: Own of %s: %v", want.print, c.Own())
	}
	if path, text, ok := c.Fixed(); path != want.path || text != want.text || ok != want.fixed {
		h.t.Errorf("C5: Fixed of %s: %q, %q, %v; want %q, %q, %v", want.print, path, text, ok, want.path, want.text, want.fixed)
	}
}

// answers asks for Holds at all facts.
func (h *holder) answers(c *Cond, want told) string {
	h.t.Helper()
	var out strings.Builder
	kind := c.Print().Get("kind").Text()
	h.tried[kind]++
	path, text, fixed := c.Fixed()
	parts, _ := jsonval.Path(path)
	for _, f := range h.facts {
		got := c.Holds(f)
		if got != want.holds(f) {
			h.t.Errorf("C4: %s at %s, %d, %q, %d, %v: Holds is %v", want.print, f.Event.Print(), f.Joined, f.Display, f.Level, f.Needs, got)
		}
		if at := f.Event.Look(parts); got && fixed && (at.Kind() != jsonval.Text || sign.Fold(at.Text()) != text) {
			h.t.Errorf("C5: %s holds at %s, but not by what is Fixed", want.print, f.Event.Print())
		}
		if other := (Facts{f.Event, f.Joined, "cake", f.Level, f.Needs}); !c.Own() && c.Holds(other) != got {
			h.t.Errorf("C3: %s is not Own, but holds for one user alone", want.print)
		}
		if got {
			h.tried["holds "+kind]++
		}
		fmt.Fprint(&out, got)
	}
	return out.String()
}

func TestHeldByKinds(t *testing.T) {
	h := newHolder(t)
	for _, kind := range kindTexts() {
		for _, others := range []string{
			`"x":1`, `"key":"type","pattern":"*","value":null,"is":"2"`, `"key":1,"pattern":1,"value":[],"is":1`,
			`"key":"","pattern":"","value":"","is":""`, `"Kind":"event_match","Key":"a"`, `"key":null,"pattern":null,"is":null`,
		} {
			members := others
			if kind != "" {
				members += `,"kind":` + kind
			}
			h.hold("{" + members + "}")
		}
	}
	for _, v := range append(anyOther[1:], `"event_match"`, `["kind","event_match"]`, `[{"kind":"contains_display_name"}]`) {
		h.hold(v)
	}
}

func TestHeldByMatch(t *testing.T) {
	h := newHolder(t)
	for _, key := range keyTexts() {
		for _, pattern := range patternTexts() {
			h.hold(object("kind", `"event_match"`, "key", key, "pattern", pattern))
		}
	}
	h.enough("event_match", "wrong", "holds event_match")
}

func TestHeldByProperty(t *testing.T) {
	h := newHolder(t)
	for _, key := range keyTexts() {
		for _, v := range valueTexts() {
			h.hold(object("key", key, "value", v, "kind", `"event_property_is"`, "pattern", `"*"`))
			h.hold(object("key", key, "value", v, "kind", `"event_property_contains"`, "is", "[]"))
		}
	}
	h.enough("event_property_is", "event_property_contains", "wrong", "holds event_property_is", "holds event_property_contains")
}

func TestHeldByCountAndPermission(t *testing.T) {
	h := newHolder(t)
	for _, is := range isTexts() {
		h.hold(object("kind", `"room_member_count"`, "is", is, "key", "7"))
	}
	for _, key := range keyTexts() {
		h.hold(object("kind", `"sender_notification_permission"`, "key", key))
	}
	h.enough("room_member_count", "wrong", "sender_notification_permission", "holds room_member_count", "holds sender_notification_permission")
}

func TestHeldByChance(t *testing.T) {
	h := newHolder(t)
	kinds, keys, patterns, values, is := kindTexts(), keyTexts(), patternTexts(), valueTexts(), isTexts()
	random := rand.New(rand.NewSource(7))
	one := func(l []string) string { return l[random.Intn(len(l))] }
	for range 2000 {
		kind := jsonval.OfText(one(knownKinds())).Print()
		if random.Intn(8) == 0 {
			kind = one(kinds)
		}
		members := []string{"kind", kind, "key", one(keys), "pattern", one(patterns), "value", one(values), "is", one(is), "x", one(values), "Kind", one(kinds)}
		h.hold(object(members...))
	}
	h.enough(append(knownKinds(), "wrong", "holds contains_display_name")...)
}

// enough wants that conditions of all these were there.
func (h *holder) enough(what ...string) {
	for _, w := range what {
		if h.tried[w] < 10 {
			h.t.Errorf("of %q only %d were tried", w, h.tried[w])
		}
	}
}
