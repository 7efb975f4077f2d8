package rules

import (
	"strings"
	"testing"

	"tocsin/api"
	"tocsin/wire"
)

// loaded reads a set, and wants that just its bytes are read.
func loaded(t testing.TB, user, text string) *Set {
	t.Helper()
	r := wire.NewReader([]byte(text + "\x04more"))
	s, errno := Load(user, r)
	if s == nil || errno != api.OK {
		t.Fatalf("R7: Load(%q): %v, %d; want a set, OK", text, s != nil, errno)
	}
	if r.Text() != "more" || !r.End() {
		t.Errorf("R7: behind Load the reader is not just behind what was read: %v", r.Err())
	}
	return s
}

// hurt wants that bytes are refused.
func hurt(t testing.TB, what, text string) {
	t.Helper()
	if s, errno := Load(anna, wire.NewReader([]byte(text))); s != nil || errno != api.ErrWire {
		t.Errorf("R7, P2: Load of %s: %v, %d; want nil, ErrWire", what, s != nil, errno)
	}
}

const (
	noUsers  = "\x00\x00\x00\x00\x00"
	ownSaved = "\x00\x00\x00\x00" + "\x01\x00\x00\x00" + "\x01\x01\x00\x07default" + "\x01\x00\x00\x00" + "\x01\x01\x01\x07default" + "\x01\x01\x01\x07default" + "\x01\x01\x01\x00" + "\x01\x00\x00\x00" + "\x01\x00\x00\x00" +
		"\x01\x01\x01\x07default" + "\x01\x01\x00\x04ring" + "\x01\x01\x00\x07default" + "\x01\x01\x00\x00" + "\x01\x01\x00\x00"
)

func TestSave(t *testing.T) {
	s := made(t, anna)
	if got := saved(s); got != noUsers+ownSaved {
		t.Errorf("R7: a new set is saved as %q, want %q", got, noUsers+ownSaved)
	}
	// The user's name is not written.
	if saved(made(t, "@b:else")) != noUsers+ownSaved {
		t.Error("R7: the set of another user is saved otherwise")
	}
	add(t, s, "override", "o2", `{"actions":["notify"]}`)
	add(t, s, "override", "o1", `{"actions":[{"set_tweak":"sound","value":"é"}],"conditions":[{"kind":"room_member_count","is":"==02"},{"kind":"x"}]}`)
	add(t, s, "content", "c", `{"actions":[{"set_tweak":"highlight"}],"pattern":"A**"}`)
	add(t, s, "room", "!r", `{"actions":["notify",{"set_tweak":"highlight"}]}`)
	add(t, s, "sender", "@s", `{"actions":[]}`)
	add(t, s, "underride", "u", `{"actions":[],"conditions":[{"kind":"y"}]}`)
	s.Enable("override", "o2", false)
	s.Enable("sender", "@s", false)
	s.Enable("override", ".master", true)
	s.SetActions("underride", ".sealed", value(t, `[{"set_tweak":"sound","value":"zz"}]`))
	want := "\x02" + "\x02o1\x01" + "\x02" + "\x25{\"is\":\"2\",\"kind\":\"room_member_count\"}" + "\x0c{\"kind\":\"x\"}" + "\x00\x00\x02é" + "\x02o2\x00\x00\x01\x00\x00" +
		"\x01" + "\x01c\x01\x02a*\x00\x01\x00" +
		"\x01" + "\x02!r\x01\x01\x01\x00" +
		"\x01" + "\x02@s\x00\x00\x00\x00" +
		"\x01" + "\x01u\x01\x01\x0c{\"kind\":\"y\"}\x00\x00\x00" +
		"\x01" + ownSaved[1:len(ownSaved)-4] + "\x01\x00\x00\x02zz"
	if got := saved(s); got != want {
		t.Errorf("R7: saved as\n%q, want\n%q", got, want)
	}
	u := loaded(t, anna, want)
	if all(u) != all(s) {
		t.Errorf("R7: Load of Save gives\n%s, want\n%s", all(u), all(s))
	}
	// Behind what was written before, and what is written then.
	w := wire.NewWriter()
	w.Int(7)
	s.Save(w)
	s.Save(w)
	if string(w.Bytes()) != "\x0e"+want+want {
		t.Errorf("R7: Save does not write behind what was written")
	}
	r := wire.NewReader(w.Bytes())
	r.Int()
	for range 2 {
		if v, errno := Load(anna, r); errno != api.OK || all(v) != all(s) {
			t.Errorf("R7: Load from the middle: %d", errno)
		}
	}
	if !r.End() {
		t.Errorf("R7: bytes are left: %v", r.Err())
	}
	// What is loaded goes on as the other one, and apart from it.
	before := all(s)
	add(t, u, "override", "new", `{"actions":[]}`)
	u.Enable("override", ".master", false)
	u.Delete("override", "o1")
	if all(s) != before {
		t.Error("P4: the set that was saved changes with the one that was loaded")
	}
	// Another user's rules, with the same bytes.
	other := loaded(t, "@b:home", want)
	if saved(other) != want || rule(t, other, "content", ".localpart").Conds[0].Name() != `{"key":"content.body","kind":"event_match","pattern":"b"}` {
		t.Error("R7: Load for another user")
	}
}

func TestLoadsUser(t *testing.T) {
	r := wire.NewReader([]byte(noUsers + ownSaved))
	for _, user := range []string{"", "@", "anna", "@Anna:home", "@anna", "@anna:"} {
		if s, errno := Load(user, r); s != nil || errno != api.ErrID {
			t.Errorf("R7, P2: Load for %q: %v, %d; want nil, ErrID", user, s != nil, errno)
		}
	}
	if _, errno := Load(anna, r); errno != api.OK || !r.End() {
		t.Errorf("R7: Load for no user has read: %d, %v", errno, r.Err())
	}
	// ErrID is told ahead of a fault.
	r = wire.NewReader(nil)
	r.Flag()
	if s, errno := Load("@", r); s != nil || errno != api.ErrID {
		t.Errorf("R7, P2: %v, %d; want nil, ErrID", s != nil, errno)
	}
}

func TestLoadsReader(t *testing.T) {
	// A fault that was there ahead.
	r := wire.NewReader([]byte("\x02" + noUsers + ownSaved))
	r.Flag()
	if s, errno := Load(anna, r); s != nil || errno != api.ErrWire {
		t.Errorf("R7: with a fault ahead: %v, %d; want nil, ErrWire", s != nil, errno)
	}
	// Bytes that end, wherever that is.
	whole := saved(filled(t))
	for n := range len(whole) {
		hurt(t, "less bytes", whole[:n])
	}
	loaded(t, anna, whole)
	// Truths that are none, in each place of the own rules' truths.
	for i := range len(ownSaved) {
		if ownSaved[i] == 0 || ownSaved[i] == 1 {
			hurt(t, "a truth that is none, or a text that is too long", noUsers+ownSaved[:i]+"\xff"+ownSaved[i+1:])
		}
	}
}

func TestLoadsFaults(t *testing.T) {
	own := ownSaved
	// with is what is saved of rules of a kind alone.
	with := func(kind int, rules ...string) string {
		lists := []string{"\x00", "\x00", "\x00", "\x00", "\x00"}
		lists[kind] = string(rune(len(rules))) + strings.Join(rules, "")
		return strings.Join(lists, "") + own
	}
	text := func(s string) string {
		w := wire.NewWriter()
		w.Text(s)
		return string(w.Bytes())
	}
	const end = "\x00\x00\x00" // actions of nothing
	tail := []string{"\x01\x00" + end, "\x01\x01x" + end, "\x01" + end, "\x01" + end, "\x01\x00" + end}
	check := func(what string, bytes string, ok bool) {
		t.Helper()
		if !ok {
			hurt(t, what, bytes)
		} else if u := loaded(t, anna, bytes); saved(u) != bytes {
			t.Errorf("R7: %s is saved otherwise: %q, want %q", what, saved(u), bytes)
		}
	}
	// IDs.
	for kind := range 5 {
		for id, where := range map[string]string{
			"a": "yyNNy", "!": "yyyNy", "!r:home": "yyyNy", "@": "yyNyy", "@b": "yyNyy", strings.Repeat("a", 60): "yyNNy", "!" + strings.Repeat("a", 59): "yyyNy", "@" + strings.Repeat("a", 59): "yyNyy", strings.Repeat("é", 30): "yyNNy", "a.": "yyNNy", "\x00": "yyNNy",
			"": "NNNNN", strings.Repeat("a", 61): "NNNNN", "!" + strings.Repeat("a", 60): "NNNNN", "@" + strings.Repeat("a", 60): "NNNNN", "/": "NNNNN", "!/": "NNNNN", "@a/b": "NNNNN", `\`: "NNNNN", `!\`: "NNNNN", `@\`: "NNNNN",
			"\xff": "NNNNN", "!\xff": "NNNNN", "@\xff": "NNNNN", ".": "NNNNN", ".a": "NNNNN", ".master": "NNNNN", ".localpart": "NNNNN", ".message": "NNNNN", ".!": "NNNNN",
		} {
			check("the ID "+id, with(kind, text(id)+tail[kind]), where[kind] == 'y')
		}
		// Twice; in another kind it may be.
		sign := []string{"", "", "!", "@", ""}[kind]
		a, b := text(sign+"a")+tail[kind], text(sign+"b")+tail[kind]
		check("two IDs", with(kind, a, b), true)
		check("two IDs", with(kind, b, a), true)
		check("an ID twice", with(kind, a, a), false)
		check("an ID twice", with(kind, a, b, a), false)
		check("an ID twice", with(kind, b, a, a), false)
		// Forty and one more.
		var many []string
		for i := range 41 {
			many = append(many, text(sign+string(rune('A'+i)))+strings.Replace(tail[kind], "\x01", "\x00", 1))
		}
		many[31] = text(sign+"z") + tail[kind] // for what may not be in an ID
		many[27] = text(sign+"y") + tail[kind]
		check("40 rules", with(kind, many[:40]...), true)
		check("41 rules", with(kind, many...), false)
	}
	check("an ID in two kinds", "\x01"+text("!a")+tail[0]+"\x01"+text("!a")+tail[1]+"\x01"+text("!a")+tail[2]+"\x00"+"\x01"+text("!a")+tail[4]+own, true)
	// Conditions.
	for _, kind := range []int{0, 4} {
		for c, ok := range map[string]bool{
			`{"kind":"x"}`: true, `{"kind":"contains_display_name"}`: true, `{"key":"a","kind":"event_match","pattern":"x*"}`: true, `{"key":"a","kind":"event_property_is","value":null}`: true, `{"is":"<7","kind":"room_member_count"}`: true,
			``: false, `x`: false, `null`: false, `{}`: false, `[]`: false, `{"kind":""}`: false, `{"kind":"x"} `: false, ` {"kind":"x"}`: false, `{"kind": "x"}`: false, `{"kind":"x","x":1}`: false, `{"kind":"\u0078"}`: false, `{"kind":"x"}x`: false, `{"kind":"x"`: false, "{\"kind\":\"\xff\"}": false,
			`{"kind":"event_match","key":"a","pattern":"x"}`: false, `{"key":"a","kind":"event_match","pattern":"X"}`: false, `{"key":"a","kind":"event_match","pattern":"**"}`: false, `{"key":"a","kind":"event_match"}`: false, `{"is":"==7","kind":"room_member_count"}`: false, `{"is":"07","kind":"room_member_count"}`: false,
			`{"key":"a","kind":"event_property_is","value":-0}`: false, `{"kind":"` + strings.Repeat("x", 61) + `"}`: false, `{"key":"a","kind":"event_property_is","value":"` + strings.Repeat("x", 4096) + `"}`: false,
		} {
			check("the condition "+c, with(kind, text("a")+"\x01\x01"+text(c)+end), ok)
			check("the condition "+c, with(kind, text("a")+"\x01\x03"+text(`{"kind":"x"}`)+text(c)+text(`{"kind":"x"}`)+end), ok)
		}
		x := text(`{"kind":"x"}`)
		check("10 conditions", with(kind, text("a")+"\x01\x0a"+strings.Repeat(x, 10)+end), true)
		check("11 conditions", with(kind, text("a")+"\x01\x0b"+strings.Repeat(x, 11)+end), false)
	}
	// Patterns.
	for p, ok := range map[string]bool{
		"": true, "x": true, "?*": true, `\*`: true, "é": true, strings.Repeat("x", 100): true,
		"X": false, "*?": false, "**": false, `\`: false, `\x`: false, "É": false, "\xff": false, strings.Repeat("x", 101): false,
	} {
		check("the pattern "+p, with(1, text("a")+"\x01"+text(p)+end), ok)
	}
	// Sounds: of each kind, and of each own rule.
	for sound, ok := range map[string]bool{"": true, "s": true, "\x00": true, "é": true, strings.Repeat("s", 60): true, strings.Repeat("é", 30): true, strings.Repeat("s", 61): false, strings.Repeat("é", 30) + "s": false, "\xff": false, "s\xc3": false, strings.Repeat("s", 5000): false} {
		for kind := range 5 {
			id := text([]string{"a", "a", "!a", "@a", "a"}[kind])
			for _, truths := range []string{"\x00\x00", "\x01\x00", "\x00\x01", "\x01\x01"} {
				check("the sound "+sound, with(kind, id+strings.TrimSuffix(tail[kind], end)+truths+text(sound)), ok)
			}
		}
		for i := range 14 {
			parts := strings.Split(strings.TrimSuffix(strings.Repeat("\x01\x01\x00\x00|", 14), "|"), "|")
			parts[i] = "\x00\x00\x01" + text(sound)
			check("an own rule's sound "+sound, noUsers+strings.Join(parts, ""), ok)
		}
	}
	// Truths.
	for kind := range 5 {
		id := text([]string{"a", "a", "!a", "@a", "a"}[kind])
		check("a truth that is none", with(kind, id+"\x02"+tail[kind][1:]), false)
		check("not enabled", with(kind, id+"\x00"+tail[kind][1:]), true)
		check("a truth that is none", with(kind, id+strings.TrimSuffix(tail[kind], end)+"\x02\x00\x00"), false)
		check("a truth that is none", with(kind, id+strings.TrimSuffix(tail[kind], end)+"\x00\x02\x00"), false)
	}
	// Counts in more bytes than they need.
	check("a count that is too long", "\x80\x00\x00\x00\x00\x00"+own, false)
	check("a list that is too long", "\xff\xff\xff\xff\xff\xff\xff\xff\xff\x01", false)
}
