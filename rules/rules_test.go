package rules

import (
	"fmt"
	"iter"
	"slices"
	"strings"
	"testing"

	"tocsin/api"
	"tocsin/cond"
	"tocsin/jsonval"
	"tocsin/wire"
)

// The calls as they were given.
var (
	_ func(string) (*Set, api.Errno)                                       = New
	_ func(*Set, string, string, *jsonval.Value, string, string) api.Errno = (*Set).Put
	_ func(*Set, string, string) api.Errno                                 = (*Set).Delete
	_ func(*Set, string, string, bool) api.Errno                           = (*Set).Enable
	_ func(*Set, string, string, *jsonval.Value) api.Errno                 = (*Set).SetActions
	_ func(*Set) iter.Seq[Rule]                                            = (*Set).All
	_ func(*Set, cond.Facts) (api.Actions, string)                         = (*Set).Evaluate
	_ func(*Set) *jsonval.Value                                            = (*Set).Print
	_ func(*Set, *wire.Writer)                                             = (*Set).Save
	_ func(string, *wire.Reader) (*Set, api.Errno)                         = Load
	_                                                                      = Rule{Kind: "", ID: "", Own: false, Enabled: false, Conds: []*cond.Cond(nil), Actions: api.Actions{}}
)

const anna = "@anna:home"

func value(t testing.TB, text string) *jsonval.Value {
	t.Helper()
	v, err := jsonval.Parse([]byte(text))
	if err != nil {
		t.Fatalf("J1: Parse(%s): %v", text, err)
	}
	return v
}

func made(t testing.TB, user string) *Set {
	t.Helper()
	s, errno := New(user)
	if s == nil || errno != api.OK {
		t.Fatalf("R1: New(%q): %v, %d; want a set, OK", user, s != nil, errno)
	}
	return s
}

// put wants what Put answers.
func put(t testing.TB, s *Set, kind, id, rule, before, after string, want api.Errno) {
	t.Helper()
	if errno := s.Put(kind, id, value(t, rule), before, after); errno != want {
		t.Errorf("R2: Put(%q, %q, %s, %q, %q): %d, want %d", kind, id, rule, before, after, errno, want)
	}
}

// add puts a rule that may be, at no place.
func add(t testing.TB, s *Set, kind, id, rule string) {
	t.Helper()
	put(t, s, kind, id, rule, "", "", api.OK)
}

// line tells a rule, all of it.
func line(r Rule) string {
	var conds []string
	for _, c := range r.Conds {
		conds = append(conds, c.Name())
	}
	return fmt.Sprintf("%s/%q own %v enabled %v %s %s", r.Kind, r.ID, r.Own, r.Enabled, strings.Join(conds, ";"), told(r.Actions))
}

func told(a api.Actions) string { return fmt.Sprintf("%v %v %q", a.Notify, a.Highlight, a.Sound) }

// lines are all rules, in the order in which they are asked.
func lines(s *Set) []string {
	var all []string
	for r := range s.All() {
		all = append(all, line(r))
	}
	return all
}

// order are the IDs of all rules of a kind.
func order(s *Set, kind string) string {
	var ids []string
	for r := range s.All() {
		if r.Kind == kind {
			ids = append(ids, r.ID)
		}
	}
	return strings.Join(ids, " ")
}

// users are the IDs of the user's rules of a kind.
func users(s *Set, kind string) string {
	var ids []string
	for r := range s.All() {
		if r.Kind == kind && !r.Own {
			ids = append(ids, r.ID)
		}
	}
	return strings.Join(ids, " ")
}

// rule gives one of a set.
func rule(t testing.TB, s *Set, kind, id string) Rule {
	t.Helper()
	for r := range s.All() {
		if r.Kind == kind && r.ID == id {
			return r
		}
	}
	t.Fatalf("R4: there is no rule %s/%s", kind, id)
	return Rule{}
}

func saved(s *Set) string {
	w := wire.NewWriter()
	s.Save(w)
	return string(w.Bytes())
}

// all is everything that is to be seen of a set.
func all(s *Set) string {
	return strings.Join(lines(s), "\n") + "\n" + s.Print().Print() + "\n" + saved(s)
}

// says wants what a set says of an event.
func says(t testing.TB, s *Set, f cond.Facts, name string, want api.Actions) {
	t.Helper()
	if a, got := s.Evaluate(f); got != name || a != want {
		t.Errorf("R5: of %s, joined %d: %q, %s; want %q, %s", f.Event.Print(), f.Joined, got, told(a), name, told(want))
	}
}

var (
	nothing   = api.Actions{}
	notify    = api.Actions{Notify: true}
	ring      = api.Actions{Notify: true, Sound: "ring"}
	loud      = api.Actions{Notify: true, Sound: "default"}
	highlight = api.Actions{Notify: true, Highlight: true}
	both      = api.Actions{Notify: true, Highlight: true, Sound: "default"}
)

func event(t testing.TB, text string, joined int) cond.Facts {
	t.Helper()
	return cond.Facts{Event: value(t, text), Joined: joined}
}

func TestExamples(t *testing.T) {
	s := made(t, anna)
	message := `{"type":"m.room.message","room_id":"!r:home","content":{"body":"hello"}}`
	says(t, s, event(t, message, 3), "underride/.message", notify)
	says(t, s, event(t, message, 2), "underride/.pair", loud)
	says(t, s, event(t, `{"type":"m.room.message","content":{"body":"Anna!"}}`, 3), "content/.localpart", both)
	says(t, s, event(t, `{"type":"m.reaction"}`, 3), "override/.reaction", nothing)
	says(t, s, event(t, `{"type":"x"}`, 3), "", nothing)

	add(t, s, "room", "!r:home", `{"actions":[]}`)
	says(t, s, event(t, message, 3), "room/!r:home", nothing)
	mention := `{"type":"m.room.message","room_id":"!r:home","content":{"body":"x","m.mentions":{"user_ids":["@anna:home"]}}}`
	says(t, s, event(t, mention, 3), "override/.mention", both)

	add(t, s, "override", "b", `{"actions":[]}`)
	add(t, s, "override", "a", `{"actions":[]}`)
	if got := users(s, "override"); got != "a b" {
		t.Errorf("R2: %s, want a b", got)
	}
	put(t, s, "override", "b", `{"actions":[]}`, "a", "", api.OK)
	put(t, s, "override", "c", `{"actions":[]}`, "", "a", api.OK)
	if got := users(s, "override"); got != "b a c" {
		t.Errorf("R2: %s, want b a c", got)
	}
	put(t, s, "override", "c", `{"actions":[]}`, ".notice", "", api.ErrPlace)
	put(t, s, "override", "c", `{"actions":[]}`, "c", "", api.ErrPlace)
	put(t, s, "override", "c", `{"actions":[]}`, "a", "b", api.ErrPlace)

	if errno := s.Enable("override", ".master", true); errno != api.OK {
		t.Errorf("R3: Enable: %d", errno)
	}
	says(t, s, event(t, mention, 3), "override/.master", nothing)
	says(t, s, event(t, `{"type":"x"}`, 3), "override/.master", nothing)

	add(t, s, "sender", "@x", `{"actions":["notify",{"set_tweak":"highlight"},{"set_tweak":"x","value":[]}]}`)
	if got := s.Print().Get("sender").Item(0).Get("actions").Print(); got != `["notify",{"set_tweak":"highlight","value":true}]` {
		t.Errorf("R6: the actions are written %s", got)
	}
	for _, none := range []string{`["notify","y"]`, `[1]`, `{}`, `[{"set_tweak":"sound"}]`, `[{"set_tweak":"highlight","value":1}]`} {
		put(t, s, "sender", "@x", `{"actions":`+none+`}`, "", "", api.ErrRule)
	}
}

func TestUsersNames(t *testing.T) {
	check := func(user string, ok bool) {
		t.Helper()
		s, errno := New(user)
		if ok && (s == nil || errno != api.OK) || !ok && (s != nil || errno != api.ErrID) {
			t.Errorf("R1, P2: New(%q): %v, %d", user, s != nil, errno)
		}
		if s, errno := Load(user, wire.NewReader(nil)); s != nil || !ok && errno != api.ErrID || ok && errno != api.ErrWire {
			t.Errorf("R7, P2: Load of nothing for %q: %v, %d", user, s != nil, errno)
		}
	}
	for _, user := range []string{"@a:b", "@anna:home", "@.:-", "@0:9", "@a.b_c-d=e/f9:h.-0", "@" + strings.Repeat("a", 57) + ":b", "@a:" + strings.Repeat("b", 57)} {
		check(user, true)
	}
	for _, user := range []string{
		"", "@", ":", "@:", "@a", "@a:", "@:b", "a:b", "!a:b", "$a:b", "@@a:b", "@a:b:c", "@a::b", "@a:b:", " @a:b", "@a:b ", "@a:b\n", "@a\n:b", "@é:b", "@a:é", "@a:b\x00",
		"@a\xff:b", "@a:\xff", "@\ufffd:b", "@ａ:b", "@" + strings.Repeat("a", 58) + ":b", "@a:" + strings.Repeat("b", 58), "@a:" + strings.Repeat("b", 5000),
	} {
		check(user, false)
	}
	for b := range 256 {
		sign := string([]byte{byte(b)})
		small := strings.Contains("abcdefghijklmnopqrstuvwxyz0123456789", sign)
		check("@x"+sign+"x:y", small || strings.Contains("._-=/:", sign) && sign != ":")
		check("@x:y"+sign+"y", small || strings.Contains(".-", sign))
	}
}

func TestOwnRules(t *testing.T) {
	for _, u := range []struct{ user, local string }{{anna, "anna"}, {"@a.b_c-d=e/f9:h.-0", "a.b_c-d=e/f9"}, {"@a:" + strings.Repeat("h", 57), "a"}, {"@" + strings.Repeat("l", 57) + ":h", strings.Repeat("l", 57)}} {
		type row struct {
			kind, id string
			enabled  bool
			conds    []string
			actions  api.Actions
		}
		match := func(key, pattern string) string {
			return `{"key":"` + key + `","kind":"event_match","pattern":"` + pattern + `"}`
		}
		is := func(key, v string) string {
			return `{"key":"` + key + `","kind":"event_property_is","value":` + v + `}`
		}
		want := []row{
			{"override", ".master", false, nil, nothing},
			{"override", ".notice", true, []string{match("content.msgtype", "m.notice")}, nothing},
			{"override", ".invite", true, []string{match("type", "m.room.member"), match("content.membership", "invite"), is("state_key", `"`+u.user+`"`)}, loud},
			{"override", ".member", true, []string{match("type", "m.room.member")}, nothing},
			{"override", ".mention", true, []string{`{"key":"content.m\\.mentions.user_ids","kind":"event_property_contains","value":"` + u.user + `"}`}, both},
			{"override", ".name", true, []string{`{"kind":"contains_display_name"}`}, both},
			{"override", ".everybody", true, []string{is(`content.m\\.mentions.room`, "true"), `{"key":"room","kind":"sender_notification_permission"}`}, highlight},
			{"override", ".reaction", true, []string{match("type", "m.reaction")}, nothing},
			{"override", ".edit", true, []string{is(`content.m\\.relates_to.rel_type`, `"m.replace"`)}, nothing},
			{"content", ".localpart", true, []string{match("content.body", u.local)}, both},
			{"underride", ".call", true, []string{match("type", "m.call.invite")}, ring},
			{"underride", ".pair", true, []string{`{"is":"2","kind":"room_member_count"}`, match("type", "m.room.message")}, loud},
			{"underride", ".message", true, []string{match("type", "m.room.message")}, notify},
			{"underride", ".sealed", true, []string{match("type", "m.room.encrypted")}, notify},
		}
		got := lines(made(t, u.user))
		if len(got) != len(want) {
			t.Fatalf("R1, R4: a new set has %d rules, want %d", len(got), len(want))
		}
		for i, w := range want {
			text := fmt.Sprintf("%s/%q own true enabled %v %s %s", w.kind, w.id, w.enabled, strings.Join(w.conds, ";"), told(w.actions))
			if got[i] != text {
				t.Errorf("R1: rule %d of %s is\n%s, want\n%s", i, u.user, got[i], text)
			}
		}
	}
}

// All errors of Put, whichever of them hold at once: the first is told, and nothing is changed.
func TestPutOrderOfErrors(t *testing.T) {
	s := made(t, anna)
	for i := range 40 {
		add(t, s, "override", fmt.Sprint("r", i), `{"actions":["notify"],"conditions":[{"kind":"x"}]}`)
	}
	before := all(s)
	faults := []api.Errno{api.ErrKind, api.ErrDefault, api.ErrRule, api.ErrCond, api.ErrPlace, api.ErrMany}
	for holding := 1; holding < 1<<len(faults); holding++ {
		has := func(errno api.Errno) bool { return holding>>slices.Index(faults, errno)&1 == 1 }
		kind, id, actions, conds, place := "override", "r7", "[]", `{"kind":"x"}`, "r8"
		if has(api.ErrMany) {
			id = "new"
		}
		if has(api.ErrKind) {
			kind = "overrides"
		}
		if has(api.ErrDefault) {
			id = "." + id
		}
		if has(api.ErrRule) {
			actions = "[7]"
		}
		if has(api.ErrCond) {
			conds = `{"kind":"x"},{}`
		}
		if has(api.ErrPlace) {
			place = "nobody"
		}
		var want api.Errno
		for _, errno := range faults {
			if has(errno) {
				want = errno
				break
			}
		}
		rule := `{"actions":` + actions + `,"conditions":[` + conds + `]}`
		put(t, s, kind, id, rule, place, "", want)
		put(t, s, kind, id, rule, "", place, want)
		if all(s) != before {
			t.Fatalf("P2, R2: a Put that is refused with %d has changed the set", want)
		}
	}
	// With two places, and with an ID that may not be.
	put(t, s, "override", "new", `{"actions":[]}`, "r1", "r2", api.ErrPlace)
	put(t, s, "override", "new", `{"actions":[]}`, "", "", api.ErrMany)
	put(t, s, "override", "a/b", `{"actions":[],"conditions":[{}]}`, "x", "y", api.ErrRule)
	put(t, s, "x", "", `7`, "x", "y", api.ErrKind)
	put(t, s, "override", "./"+strings.Repeat("x", 100), `7`, "x", "y", api.ErrDefault)
	if all(s) != before {
		t.Error("P2, R2: a Put that is refused has changed the set")
	}
	put(t, s, "override", "r7", `{"actions":[],"conditions":[{"kind":"x"}]}`, "r8", "", api.OK)
}

func TestKinds(t *testing.T) {
	s := made(t, anna)
	before := all(s)
	for _, kind := range []string{"", "x", "Override", "OVERRIDE", "override ", " override", "overrid", "overrides", "override/", "contents", "rooms", "senders", "underrid", "kinds", "0", "\xff", ".master"} {
		for _, id := range []string{"a", ".master", "", "!r", "@a"} {
			put(t, s, kind, id, `{"actions":[]}`, "", "", api.ErrKind)
			if d, e, a := s.Delete(kind, id), s.Enable(kind, id, true), s.SetActions(kind, id, value(t, `["notify"]`)); d != api.ErrKind || e != api.ErrKind || a != api.ErrKind {
				t.Errorf("R3: of the kind %q: Delete %d, Enable %d, SetActions %d; want ErrKind", kind, d, e, a)
			}
		}
	}
	if all(s) != before {
		t.Error("P2: what was refused has changed the set")
	}
}

func TestIDs(t *testing.T) {
	for _, c := range []struct {
		id    string
		kinds string // where it may be; "": nowhere
	}{
		{"a", "override content underride"}, {" ", "override content underride"}, {"a.", "override content underride"}, {"a.b", "override content underride"}, {"\x00", "override content underride"}, {"é", "override content underride"}, {"\ufffd", "override content underride"},
		{strings.Repeat("a", 60), "override content underride"}, {strings.Repeat("é", 30), "override content underride"}, {`"`, "override content underride"}, {"\u2028", "override content underride"},
		{"!", "override content room underride"}, {"!r:home", "override content room underride"}, {"!" + strings.Repeat("r", 59), "override content room underride"}, {"!é \"", "override content room underride"}, {"!@", "override content room underride"}, {"!.", "override content room underride"},
		{"@", "override content sender underride"}, {"@b:home", "override content sender underride"}, {"@" + strings.Repeat("r", 59), "override content sender underride"}, {"@B!\n", "override content sender underride"},
		{"", ""}, {strings.Repeat("a", 61), ""}, {strings.Repeat("é", 30) + "a", ""}, {strings.Repeat("a", 5000), ""}, {"!" + strings.Repeat("r", 60), ""}, {"@" + strings.Repeat("r", 60), ""},
		{"/", ""}, {"a/", ""}, {"/a", ""}, {"!r/s", ""}, {"@a/b:home", ""}, {`\`, ""}, {`a\`, ""}, {`!\a`, ""}, {`@\`, ""},
		{"\xff", ""}, {"a\xff", ""}, {"!\xc3", ""}, {"@\xed\xa0\x80", ""}, {"\xe2\x82", ""},
	} {
		for _, kind := range modelKinds() {
			s := made(t, anna)
			want := api.ErrRule
			if slices.Contains(strings.Fields(c.kinds), kind) {
				want = api.OK
			}
			put(t, s, kind, c.id, `{"actions":[],"pattern":"x"}`, "", "", want)
			if n := s.Print().Get(kind).Len() - made(t, anna).Print().Get(kind).Len(); (n == 1) != (want == api.OK) {
				t.Errorf("R2: Put(%q, %q) has added %d rules", kind, c.id, n)
			}
			if want == api.OK && rule(t, s, kind, c.id).Own {
				t.Errorf("R2: %s/%q is own", kind, c.id)
			}
		}
	}
	s := made(t, anna)
	for _, id := range []string{".", "..", ".a", ".master", ".message", ".\xff", "./", "." + strings.Repeat("a", 100)} {
		for _, kind := range modelKinds() {
			put(t, s, kind, id, `{"actions":[],"pattern":"x"}`, "", "", api.ErrDefault)
		}
	}
	put(t, s, "room", " !r", `{"actions":[]}`, "", "", api.ErrRule)
	put(t, s, "room", "@r", `{"actions":[]}`, "", "", api.ErrRule)
	put(t, s, "sender", "!r", `{"actions":[]}`, "", "", api.ErrRule)
	put(t, s, "sender", "＠r", `{"actions":[]}`, "", "", api.ErrRule)
}

// One ID may be in several kinds; they are different rules.
func TestOneIDInAllKinds(t *testing.T) {
	s := made(t, anna)
	for _, kind := range []string{"override", "content", "room", "underride"} {
		add(t, s, kind, "!x", `{"actions":[],"pattern":"x","conditions":[{"kind":"`+kind+`"}]}`)
	}
	if errno := s.Enable("content", "!x", false); errno != api.OK {
		t.Errorf("R3: Enable: %d", errno)
	}
	if errno := s.Delete("room", "!x"); errno != api.OK {
		t.Errorf("R3: Delete: %d", errno)
	}
	if errno := s.SetActions("underride", "!x", value(t, `["notify"]`)); errno != api.OK {
		t.Errorf("R3: SetActions: %d", errno)
	}
	if r := rule(t, s, "override", "!x"); !r.Enabled || r.Actions != nothing || r.Conds[0].Name() != `{"kind":"override"}` {
		t.Errorf("R3: %s", line(r))
	}
	if r := rule(t, s, "content", "!x"); r.Enabled || r.Actions != nothing {
		t.Errorf("R3: %s", line(r))
	}
	if r := rule(t, s, "underride", "!x"); !r.Enabled || r.Actions != notify || r.Conds[0].Name() != `{"kind":"underride"}` {
		t.Errorf("R3: %s", line(r))
	}
	if users(s, "room") != "" {
		t.Errorf("R3: the room's rule is there")
	}
}

func TestActions(t *testing.T) {
	sound := func(n int) string { return `[{"set_tweak":"sound","value":"` + strings.Repeat("s", n) + `"}]` }
	times := func(n int, item string) string {
		return "[" + strings.TrimSuffix(strings.Repeat(item+",", n), ",") + "]"
	}
	may := map[string]api.Actions{
		`[]`: nothing, `["notify"]`: notify, `["dont_notify"]`: nothing, `["coalesce"]`: nothing, `["notify","dont_notify"]`: notify, `["dont_notify","notify"]`: notify, `["coalesce","notify","notify"]`: notify,
		`[{"set_tweak":"highlight"}]`:                                                                      {Highlight: true},
		`[{"set_tweak":"highlight","value":true}]`:                                                         {Highlight: true},
		`[{"set_tweak":"highlight","value":false}]`:                                                        nothing,
		`[{"set_tweak":"highlight"},{"set_tweak":"highlight","value":false}]`:                              nothing,
		`[{"set_tweak":"highlight","value":false},{"set_tweak":"highlight"},"notify"]`:                     highlight,
		`[{"set_tweak":"highlight","value":false},{"set_tweak":"highlight","value":true},"notify"]`:        highlight,
		`[{"set_tweak":"sound","value":"a"},{"set_tweak":"sound","value":"b"}]`:                            {Sound: "b"},
		`[{"set_tweak":"sound","value":"b","x":1,"Value":7},"notify",{"set_tweak":"highlight","sound":7}]`: {Notify: true, Highlight: true, Sound: "b"},
		`[{"set_tweak":"x"}]`: nothing, `[{"set_tweak":"","value":7}]`: nothing, `[{"set_tweak":"Sound"}]`: nothing, `[{"set_tweak":"Highlight","value":7}]`: nothing, `[{"set_tweak":"notify"}]`: nothing, `[{"set_tweak":"x","value":{"set_tweak":"highlight"}}]`: nothing,
		sound(1): {Sound: "s"}, sound(60): {Sound: strings.Repeat("s", 60)},
		`[{"set_tweak":"sound","value":"` + strings.Repeat("é", 30) + `"}]`: {Sound: strings.Repeat("é", 30)},
		`[{"set_tweak":"sound","value":" \u0000"}]`:                         {Sound: " \x00"},
		`[{"set_tweak":"sound","value":"notify"}]`:                          {Sound: "notify"},
		times(10, `"notify"`):                                               notify, times(9, `"notify"`): notify, times(10, `{"set_tweak":"highlight"}`): {Highlight: true}, times(10, `{"set_tweak":"x"}`): nothing,
	}
	none := []string{
		`null`, `true`, `1`, `"notify"`, `{}`, `{"0":"notify"}`, `[""]`, `["Notify"]`, `["notify "]`, `["y"]`, `["highlight"]`, `["sound"]`, `["set_tweak"]`, `["notify","y"]`, `["y","notify"]`, `[null]`, `[true]`, `[1]`, `[[]]`, `[["notify"]]`, `[{}]`,
		`[{"value":true}]`, `[{"set_tweak":null}]`, `[{"set_tweak":1}]`, `[{"set_tweak":["sound"],"value":"x"}]`, `[{"Set_tweak":"highlight"}]`,
		`[{"set_tweak":"sound"}]`, `[{"set_tweak":"sound","value":null}]`, `[{"set_tweak":"sound","value":true}]`, `[{"set_tweak":"sound","value":7}]`, `[{"set_tweak":"sound","value":["x"]}]`, `[{"set_tweak":"sound","Value":"x"}]`,
		sound(0), sound(61), sound(600), `[{"set_tweak":"sound","value":"` + strings.Repeat("é", 31) + `"}]`,
		`[{"set_tweak":"sound","value":""},{"set_tweak":"sound","value":"x"}]`, `[{"set_tweak":"sound","value":"x"},{"set_tweak":"sound"}]`,
		`[{"set_tweak":"highlight","value":null}]`, `[{"set_tweak":"highlight","value":1}]`, `[{"set_tweak":"highlight","value":"true"}]`, `[{"set_tweak":"highlight","value":[]}]`, `[{"set_tweak":"highlight","value":{}}]`,
		`[{"set_tweak":"highlight","value":0},{"set_tweak":"highlight"}]`, `[{"set_tweak":"highlight"},{"set_tweak":"highlight","value":null}]`,
		times(11, `"notify"`), times(64, `"notify"`), times(11, `{"set_tweak":"x"}`), times(11, `"dont_notify"`),
	}
	s := made(t, anna)
	add(t, s, "override", "a", `{"actions":[]}`)
	for text, want := range may {
		add(t, s, "override", "a", `{"actions":`+text+`}`)
		if got := rule(t, s, "override", "a").Actions; got != want {
			t.Errorf("R2: Put with the actions %s: %s, want %s", text, told(got), told(want))
		}
		for _, id := range []string{"a", ".edit"} {
			if errno := s.SetActions("override", id, value(t, text)); errno != api.OK || rule(t, s, "override", id).Actions != want {
				t.Errorf("R3: SetActions(%s, %s): %d, %s, want OK, %s", id, text, errno, told(rule(t, s, "override", id).Actions), told(want))
			}
		}
	}
	full := `["notify",{"set_tweak":"highlight"},{"set_tweak":"sound","value":"x"}]`
	for _, id := range []string{"a", ".edit", ".master"} {
		s.SetActions("override", id, value(t, full))
	}
	before := all(s)
	for _, text := range none {
		put(t, s, "override", "a", `{"actions":`+text+`}`, "", "", api.ErrRule)
		put(t, s, "override", "new", `{"actions":`+text+`}`, "", "", api.ErrRule)
		for _, id := range []string{"a", ".edit", ".master"} {
			if errno := s.SetActions("override", id, value(t, text)); errno != api.ErrRule {
				t.Errorf("R3: SetActions(%s, %s): %d, want ErrRule", id, text, errno)
			}
		}
		if errno := s.SetActions("override", "nobody", value(t, text)); errno != api.ErrNoRule {
			t.Errorf("R3, P2: SetActions of no rule, of none: %d, want ErrNoRule", errno)
		}
		if errno := s.SetActions("x", "a", value(t, text)); errno != api.ErrKind {
			t.Errorf("R3, P2: SetActions of no kind, of none: %d, want ErrKind", errno)
		}
	}
	if all(s) != before {
		t.Error("P2: what was refused has changed the set")
	}
	put(t, s, "override", "a", `{"Actions":[],"action":[]}`, "", "", api.ErrRule)
}

func TestRuleIsAnObject(t *testing.T) {
	s := made(t, anna)
	for _, kind := range modelKinds() {
		id := map[string]string{"room": "!r", "sender": "@s"}[kind]
		for _, text := range []string{`null`, `true`, `7`, `"actions"`, `[]`, `["actions",[]]`, `[{"actions":[]}]`, `{}`, `{"pattern":"x"}`} {
			put(t, s, kind, id+"x", text, "", "", api.ErrRule)
		}
		if errno := s.Put(kind, id+"x", nil, "", ""); errno != api.ErrRule {
			t.Errorf("R2, P1: Put of nil: %d, want ErrRule", errno)
		}
		if errno := s.Put(kind, id+"x", &jsonval.Value{}, "", ""); errno != api.ErrRule {
			t.Errorf("R2, P1: Put of a zero Value: %d, want ErrRule", errno)
		}
		put(t, s, kind, id+"x", `{"actions":[],"pattern":"x","rule_id":7,"default":true,"enabled":false,"kind":1,"":null}`, "", "", api.OK)
		if r := rule(t, s, kind, id+"x"); r.Own || !r.Enabled {
			t.Errorf("R2: what is not named is not let by: %s", line(r))
		}
	}
}

func TestConditions(t *testing.T) {
	times := func(n int, item string) string {
		return "[" + strings.TrimSuffix(strings.Repeat(item+",", n), ",") + "]"
	}
	x := `{"kind":"x"}`
	for text, want := range map[string]api.Errno{
		`[]`: api.OK, times(1, x): api.OK, times(10, x): api.OK, times(11, x): api.ErrRule, times(64, x): api.ErrRule, `null`: api.ErrRule, `true`: api.ErrRule, `0`: api.ErrRule, `""`: api.ErrRule, `{}`: api.ErrRule, x: api.ErrRule,
		`[{}]`: api.ErrCond, `[null]`: api.ErrCond, `[[]]`: api.ErrCond, `["x"]`: api.ErrCond, `[{"kind":""}]`: api.ErrCond, `[{"kind":"x"},{}]`: api.ErrCond, `[{},{"kind":"x"}]`: api.ErrCond, times(11, `{}`): api.ErrRule, times(10, `{}`): api.ErrCond,
		"[" + strings.Repeat(x+",", 9) + "7]": api.ErrCond, "[" + strings.Repeat(x+",", 10) + "7]": api.ErrRule,
		`[{"kind":"event_match","key":"a","pattern":"\\x"}]`: api.ErrCond,
	} {
		for _, kind := range modelKinds() {
			s := made(t, anna)
			id := map[string]string{"override": "x", "content": "x", "room": "!x", "sender": "@x", "underride": "x"}[kind]
			w := want
			if kind != "override" && kind != "underride" {
				w = api.OK
			}
			put(t, s, kind, id, `{"actions":[],"pattern":"x","conditions":`+text+`}`, "", "", w)
			put(t, s, kind, id, `{"actions":[1],"pattern":"x","conditions":`+text+`}`, "", "", api.ErrRule)
		}
	}
	// They stay in their order, also such that are alike; none there is none.
	s := made(t, anna)
	add(t, s, "underride", "u", `{"actions":[],"conditions":[{"kind":"b"},{"kind":"a"},{"is":"==02","kind":"room_member_count"},{"kind":"b","x":1}]}`)
	var names []string
	for _, c := range rule(t, s, "underride", "u").Conds {
		names = append(names, c.Name())
	}
	if got := strings.Join(names, ""); got != `{"kind":"b"}{"kind":"a"}{"is":"2","kind":"room_member_count"}{"kind":"b"}` {
		t.Errorf("R2: the conditions are %s", got)
	}
	add(t, s, "underride", "u", `{"actions":[]}`)
	if n := len(rule(t, s, "underride", "u").Conds); n != 0 {
		t.Errorf("R2: without conditions there are %d", n)
	}
	// Of the other kinds.
	add(t, s, "content", "c", `{"actions":[],"pattern":"C*?ke","conditions":[{"kind":"x"}]}`)
	add(t, s, "room", "!R:\"é", `{"actions":[],"pattern":"x","conditions":[{"kind":"x"}]}`)
	add(t, s, "sender", "@S", `{"actions":[],"conditions":7}`)
	for _, c := range [][3]string{
		{"content", "c", `{"key":"content.body","kind":"event_match","pattern":"c?*ke"}`},
		{"room", "!R:\"é", `{"key":"room_id","kind":"event_property_is","value":"!R:\"é"}`},
		{"sender", "@S", `{"key":"sender","kind":"event_property_is","value":"@S"}`},
	} {
		if r := rule(t, s, c[0], c[1]); len(r.Conds) != 1 || r.Conds[0].Name() != c[2] {
			t.Errorf("R2: %s, want the condition %s", line(r), c[2])
		}
	}
}

func TestPatterns(t *testing.T) {
	s := made(t, anna)
	for pattern, want := range map[string]string{
		`""`: `""`, `"x"`: `"x"`, `"CAKE"`: `"cake"`, `"**?a"`: `"?*a"`, `"\\*"`: `"\\*"`, `"É"`: `"é"`, `"` + strings.Repeat("x", 100) + `"`: `"` + strings.Repeat("x", 100) + `"`,
	} {
		add(t, s, "content", "c", `{"actions":[],"pattern":`+pattern+`}`)
		if got := s.Print().Get("content").Item(0).Get("pattern").Print(); got != want {
			t.Errorf("R2, R6: the pattern %s is %s, want %s", pattern, got, want)
		}
	}
	before := all(s)
	for _, pattern := range []string{`null`, `true`, `7`, `[]`, `["x"]`, `{}`, `"\\x"`, `"x\\"`, `"` + strings.Repeat("x", 101) + `"`} {
		put(t, s, "content", "c", `{"actions":[],"pattern":`+pattern+`}`, "", "", api.ErrRule)
		put(t, s, "content", "d", `{"actions":[],"pattern":`+pattern+`}`, "", "", api.ErrRule)
		for kind, id := range map[string]string{"override": "x", "room": "!x", "sender": "@x", "underride": "x"} {
			add(t, s, kind, id, `{"actions":[],"pattern":`+pattern+`}`)
			s.Delete(kind, id)
		}
	}
	put(t, s, "content", "c", `{"actions":[]}`, "", "", api.ErrRule)
	put(t, s, "content", "c", `{"actions":[],"Pattern":"x"}`, "", "", api.ErrRule)
	if all(s) != before {
		t.Error("P2: what was refused has changed the set")
	}
}

func TestPlaces(t *testing.T) {
	for _, kind := range modelKinds() {
		sign := map[string]string{"room": "!", "sender": "@"}[kind]
		body := `{"actions":[],"pattern":"x"}`
		start := func() *Set {
			s := made(t, anna)
			for _, id := range []string{"d", "c", "b", "a"} {
				add(t, s, kind, sign+id, body)
			}
			return s
		}
		check := func(s *Set, want string) {
			t.Helper()
			want = strings.TrimSpace(sign + strings.ReplaceAll(want, " ", " "+sign))
			if got := users(s, kind); got != want {
				t.Errorf("R2: %s stands, want %s", got, want)
			}
		}
		check(start(), "a b c d")
		for _, c := range []struct {
			id, before, after string
			errno             api.Errno
			want              string
		}{
			{"x", "", "", api.OK, "x a b c d"}, {"x", "a", "", api.OK, "x a b c d"}, {"x", "b", "", api.OK, "a x b c d"}, {"x", "d", "", api.OK, "a b c x d"}, {"x", "", "a", api.OK, "a x b c d"}, {"x", "", "c", api.OK, "a b c x d"}, {"x", "", "d", api.OK, "a b c d x"},
			{"a", "", "", api.OK, "a b c d"}, {"b", "", "", api.OK, "a b c d"}, {"d", "", "", api.OK, "a b c d"},
			{"a", "b", "", api.OK, "a b c d"}, {"a", "c", "", api.OK, "b a c d"}, {"a", "d", "", api.OK, "b c a d"}, {"a", "", "b", api.OK, "b a c d"}, {"a", "", "c", api.OK, "b c a d"}, {"a", "", "d", api.OK, "b c d a"},
			{"b", "a", "", api.OK, "b a c d"}, {"b", "c", "", api.OK, "a b c d"}, {"b", "d", "", api.OK, "a c b d"}, {"b", "", "a", api.OK, "a b c d"}, {"b", "", "c", api.OK, "a c b d"}, {"b", "", "d", api.OK, "a c d b"},
			{"d", "a", "", api.OK, "d a b c"}, {"d", "b", "", api.OK, "a d b c"}, {"d", "c", "", api.OK, "a b d c"}, {"d", "", "a", api.OK, "a d b c"}, {"d", "", "b", api.OK, "a b d c"}, {"d", "", "c", api.OK, "a b c d"},
			{"x", "x", "", api.ErrPlace, "a b c d"}, {"x", "", "x", api.ErrPlace, "a b c d"}, {"a", "a", "", api.ErrPlace, "a b c d"}, {"a", "", "a", api.ErrPlace, "a b c d"}, {"x", "a", "b", api.ErrPlace, "a b c d"}, {"x", "b", "b", api.ErrPlace, "a b c d"}, {"x", "y", "", api.ErrPlace, "a b c d"}, {"x", "", "y", api.ErrPlace, "a b c d"}, {"x", "y", "a", api.ErrPlace, "a b c d"}, {"x", "A", "", api.ErrPlace, "a b c d"},
		} {
			named := func(id string) string {
				if id == "" {
					return ""
				}
				return sign + id
			}
			s := start()
			put(t, s, kind, named(c.id), body, named(c.before), named(c.after), c.errno)
			check(s, c.want)
		}
		s := start()
		for _, place := range []string{".master", ".notice", ".localpart", ".message", ".", "\xff", " ", "a/b", strings.Repeat("a", 100)} {
			put(t, s, kind, sign+"x", body, place, "", api.ErrPlace)
			put(t, s, kind, sign+"x", body, "", place, api.ErrPlace)
			put(t, s, kind, sign+"b", body, place, "", api.ErrPlace)
			put(t, s, kind, sign+"b", body, "", place, api.ErrPlace)
		}
		check(s, "a b c d")
	}
	// A rule of another kind is no place.
	s := made(t, anna)
	add(t, s, "override", "a", `{"actions":[]}`)
	put(t, s, "underride", "b", `{"actions":[]}`, "a", "", api.ErrPlace)
	put(t, s, "underride", "b", `{"actions":[]}`, "", "a", api.ErrPlace)
	add(t, s, "underride", "a", `{"actions":[]}`)
	put(t, s, "underride", "b", `{"actions":[]}`, "", "a", api.OK)
	if users(s, "override") != "a" || users(s, "underride") != "a b" {
		t.Errorf("R2: %s, %s", users(s, "override"), users(s, "underride"))
	}
}

func TestMany(t *testing.T) {
	for _, kind := range modelKinds() {
		sign := map[string]string{"room": "!", "sender": "@"}[kind]
		s := made(t, anna)
		body := `{"actions":[],"pattern":"x"}`
		for i := range 40 {
			add(t, s, kind, fmt.Sprint(sign, i), body)
		}
		before := all(s)
		put(t, s, kind, sign+"x", body, "", "", api.ErrMany)
		put(t, s, kind, sign+"x", body, sign+"7", "", api.ErrMany)
		put(t, s, kind, sign+"x", body, "", sign+"7", api.ErrMany)
		put(t, s, kind, sign+"x", body, sign+"x", "", api.ErrPlace)
		if all(s) != before {
			t.Error("P2: what was refused has changed the set")
		}
		add(t, s, kind, sign+"7", body)
		put(t, s, kind, sign+"0", body, sign+"39", "", api.OK)
		put(t, s, kind, sign+"0", body, "", sign+"39", api.OK)
		for _, other := range modelKinds() {
			if other != kind {
				add(t, s, other, map[string]string{"room": "!", "sender": "@"}[other]+"x", body)
			}
		}
		if errno := s.Delete(kind, sign+"20"); errno != api.OK {
			t.Errorf("R3: Delete: %d", errno)
		}
		add(t, s, kind, sign+"x", body)
		put(t, s, kind, sign+"20", body, "", "", api.ErrMany)
		if n := len(strings.Fields(users(s, kind))); n != 40 {
			t.Errorf("R2: %d rules of a kind", n)
		}
	}
}

// What Put leaves as it was, of a rule that was there, and of all others.
func TestPutLeaves(t *testing.T) {
	s := made(t, anna)
	full := `{"actions":["notify",{"set_tweak":"highlight"},{"set_tweak":"sound","value":"x"}],"conditions":[{"kind":"x"},{"kind":"y"}]}`
	for _, id := range []string{"c", "b", "a"} {
		add(t, s, "override", id, full)
	}
	was := lines(s)
	s.Enable("override", "b", false)
	add(t, s, "override", "b", `{"actions":["notify"],"enabled":true}`)
	if r := rule(t, s, "override", "b"); r.Enabled || r.Actions != notify || len(r.Conds) != 0 {
		t.Errorf("R2: %s", line(r))
	}
	put(t, s, "override", "b", `{"actions":[],"conditions":[{"kind":"z"}]}`, "a", "", api.OK)
	if r := rule(t, s, "override", "b"); r.Enabled || r.Actions != nothing || len(r.Conds) != 1 {
		t.Errorf("R2: %s", line(r))
	}
	s.Enable("override", "b", true)
	put(t, s, "override", "b", full, "", "a", api.OK)
	if got := lines(s); !slices.Equal(got, was) {
		t.Errorf("R2: the rules are\n%s, want\n%s", strings.Join(got, "\n"), strings.Join(was, "\n"))
	}
	// A rule that was taken away and put again is new.
	s.Enable("override", "b", false)
	s.Delete("override", "b")
	add(t, s, "override", "b", `{"actions":[]}`)
	if r := rule(t, s, "override", "b"); !r.Enabled || users(s, "override") != "b a c" {
		t.Errorf("R2, R3: %s, among %s", line(r), users(s, "override"))
	}
}

func TestDelete(t *testing.T) {
	s := made(t, anna)
	for kind, id := range map[string]string{"override": "x", "content": "x", "room": "!x", "sender": "@x", "underride": "x"} {
		before := all(s)
		for _, none := range []string{"", "x", "y", "!x", "@x", "\xff", "a/b", strings.Repeat("x", 100)} {
			if errno := s.Delete(kind, none); errno != api.ErrNoRule {
				t.Errorf("R3: Delete(%q, %q): %d, want ErrNoRule", kind, none, errno)
			}
		}
		for _, own := range []string{".", ".x", ".master", ".notice", ".localpart", ".message", ".\xff"} {
			if errno := s.Delete(kind, own); errno != api.ErrDefault {
				t.Errorf("R3: Delete(%q, %q): %d, want ErrDefault", kind, own, errno)
			}
		}
		add(t, s, kind, id, `{"actions":[],"pattern":"x"}`)
		if errno := s.Delete(kind, id); errno != api.OK {
			t.Errorf("R3: Delete(%q, %q): %d", kind, id, errno)
		}
		if errno := s.Delete(kind, id); errno != api.ErrNoRule || all(s) != before {
			t.Errorf("R3: Delete(%q, %q) again: %d; the set was changed: %v", kind, id, errno, all(s) != before)
		}
	}
	for _, id := range []string{"e", "d", "c", "b", "a"} {
		add(t, s, "override", id, `{"actions":[]}`)
	}
	for _, step := range [][2]string{{"c", "a b d e"}, {"a", "b d e"}, {"e", "b d"}, {"d", "b"}, {"b", ""}} {
		if errno := s.Delete("override", step[0]); errno != api.OK || users(s, "override") != step[1] {
			t.Errorf("R3: without %s: %d, %s, want %s", step[0], errno, users(s, "override"), step[1])
		}
	}
}

func TestEnable(t *testing.T) {
	s := made(t, anna)
	add(t, s, "content", "x", `{"actions":["notify"],"pattern":"x"}`)
	before := all(s)
	for _, c := range [][2]string{{"override", ".message"}, {"override", "."}, {"override", ""}, {"override", "x"}, {"content", ".master"}, {"room", ".master"}, {"sender", ".x"}, {"underride", ".Message"}, {"underride", "message"}, {"content", "X"}, {"room", "x"}} {
		if errno := s.Enable(c[0], c[1], true); errno != api.ErrNoRule {
			t.Errorf("R3: Enable(%q, %q): %d, want ErrNoRule", c[0], c[1], errno)
		}
		if errno := s.SetActions(c[0], c[1], value(t, `["notify"]`)); errno != api.ErrNoRule {
			t.Errorf("R3: SetActions(%q, %q): %d, want ErrNoRule", c[0], c[1], errno)
		}
	}
	if all(s) != before {
		t.Error("P2: what was refused has changed the set")
	}
	for i := range lines(s) {
		var r Rule
		was := lines(s)
		n := 0
		for x := range s.All() {
			if n == i {
				r = x
			}
			n++
		}
		for _, on := range []bool{true, true, false, false, r.Enabled} {
			if errno := s.Enable(r.Kind, r.ID, on); errno != api.OK {
				t.Errorf("R3: Enable(%q, %q, %v): %d", r.Kind, r.ID, on, errno)
			}
			want := slices.Clone(was)
			x := r
			x.Enabled = on
			want[i] = line(x)
			if !slices.Equal(lines(s), want) {
				t.Errorf("R3: Enable(%q, %q, %v) has changed something else, or nothing", r.Kind, r.ID, on)
			}
		}
		if errno := s.SetActions(r.Kind, r.ID, value(t, `[{"set_tweak":"sound","value":"new"}]`)); errno != api.OK {
			t.Errorf("R3: SetActions(%q, %q): %d", r.Kind, r.ID, errno)
		}
		r.Actions = api.Actions{Sound: "new"}
		was[i] = line(r)
		if !slices.Equal(lines(s), was) {
			t.Errorf("R3: SetActions(%q, %q) has changed something else, or nothing", r.Kind, r.ID)
		}
	}
}
