package room

import (
	"fmt"
	"strings"
	"testing"

	"tocsin/api"
	"tocsin/wire"
)

// loaded reads a room, and wants that just its bytes are read, and that it is saved as the same.
func loaded(t testing.TB, text string) *Room {
	t.Helper()
	in := wire.NewReader([]byte(text + "\x04more"))
	r, errno := Load(in)
	if r == nil || errno != api.OK {
		t.Fatalf("O7: Load(%q): %v, %d; want a room, OK", text, r != nil, errno)
	}
	if in.Text() != "more" || !in.End() {
		t.Errorf("O7: behind Load(%q) the reader is not just behind what was read: %v", text, in.Err())
	}
	if saved(r) != text {
		t.Errorf("O7: %q is saved as %q", text, saved(r))
	}
	return r
}

// hurt wants that bytes are refused.
func hurt(t testing.TB, what, text string) {
	t.Helper()
	if r, errno := Load(wire.NewReader([]byte(text))); r != nil || errno != api.ErrWire {
		t.Errorf("O7, P2: Load of %s, %q: %v, %d; want nil, ErrWire", what, text, r != nil, errno)
	}
}

// text is a text as it is saved; number a number, counted a list.
func text(s string) string {
	w := wire.NewWriter()
	w.Text(s)
	return string(w.Bytes())
}

func number(n int64) string {
	w := wire.NewWriter()
	w.Int(n)
	return string(w.Bytes())
}

func counted(l ...string) string { return string([]byte{byte(len(l))}) + strings.Join(l, "") }

// A sheet is a room as it is saved, part by part.
type sheet struct {
	id, users, creator, come, others, levels, needs string
}

func (s sheet) text() string {
	return s.id + s.users + s.creator + s.come + s.others + s.levels + s.needs
}

// bare is a new room; leveled one to which levels have come.
func bare() sheet    { return sheet{text("!r"), "\x00", "\x00", "\x00", "\x00", "\x00", "\x00"} }
func leveled() sheet { return sheet{text("!r"), "\x00", "\x00", "\x01", "\x00", "\x00", "\x00"} }

// check wants that a room is read, or refused.
func check(t testing.TB, what string, s sheet, ok bool) {
	t.Helper()
	if ok {
		loaded(t, s.text())
	} else {
		hurt(t, what, s.text())
	}
}

func TestSave(t *testing.T) {
	if got := saved(made(t)); got != "\x02!r\x00\x00\x00\x00\x00\x00" {
		t.Errorf("O7: a new room is saved as %q", got)
	}
	r := filled(t)
	want := "\x02!r" +
		"\x05" + "\x07@a:home\x02\x00" + "\x07@b:home\x02\x04Béa" + "\x07@c:away\x04\x00" + "\x07@d:home\x00\x00" + "\x07@e:home\x06\x00" +
		"\x07@a:home" + "\x01" + "\x0a" +
		"\x02" + "\x07@a:home\xcf\x0f" + "\x07@b:home\x8c\x01" +
		"\x02" + "\x04room\x28" + "\x01x\x05"
	if got := saved(r); got != want {
		t.Errorf("O7: saved as\n%q, want\n%q", got, want)
	}
	u := loaded(t, want)
	if all(u) != all(r) {
		t.Errorf("O7: Load of Save gives\n%s, want\n%s", all(u), all(r))
	}
	// Behind what was written before, and what is written then.
	w := wire.NewWriter()
	w.Int(7)
	r.Save(w)
	r.Save(w)
	if string(w.Bytes()) != "\x0e"+want+want {
		t.Error("O7: Save does not write behind what was written")
	}
	in := wire.NewReader(w.Bytes())
	in.Int()
	for range 2 {
		if v, errno := Load(in); errno != api.OK || all(v) != all(r) {
			t.Errorf("O7: Load from the middle: %d", errno)
		}
	}
	if !in.End() {
		t.Errorf("O7: bytes are left: %v", in.Err())
	}
	// What is loaded goes on as the other one, and apart from it.
	before := all(r)
	events := []*Event{
		state(t, member, "@b:home", `{"membership":"leave"}`), state(t, member, "@z:home", `{"membership":"join","displayname":"Z"}`), stateBy(t, "@z:home", create, "", `{}`),
		state(t, powers, "", `{"users":{"@a:home":-1000,"@b:home":70},"users_default":5,"notifications":{"room":20,"x":-3}}`), state(t, powers, "", `{}`),
	}
	var told []bool
	for _, e := range events {
		changed, errno := u.Apply(e)
		if errno != api.OK {
			t.Errorf("O7: Apply on what was loaded: %d", errno)
		}
		told = append(told, changed)
	}
	if all(r) != before {
		t.Error("P4: the room that was saved changes with the one that was loaded")
	}
	for i, e := range events {
		if changed, _ := r.Apply(e); changed != told[i] {
			t.Errorf("O7: event %d changes something: %v, where it was loaded %v", i, changed, told[i])
		}
	}
	if all(r) != all(u) {
		t.Error("O7: what was loaded goes on otherwise")
	}
}

func TestSavesTurns(t *testing.T) {
	// A room that was loaded behind each event is as one that was not.
	r, u := made(t), made(t)
	for n := range 61 {
		for _, e := range []*Event{
			state(t, member, nth(n), `{"membership":"`+[]string{"join", "leave", "invite", "ban"}[n%4]+`","displayname":"D`+fmt.Sprint(n)+`"}`),
			stateBy(t, nth(n), create, "", `{}`),
			state(t, powers, "", fmt.Sprintf(`{"users":{"%s":%d},"users_default":%d,"notifications":{"%d":%d}}`, nth(n), n, n%7, n%5, n%3)),
		} {
			was, errno := r.Apply(e)
			changed, other := u.Apply(e)
			u = loaded(t, saved(u))
			if was != changed || errno != other || all(r) != all(u) {
				t.Fatalf("O7: behind %s: %v, %d and %v, %d", e.Body.Print(), was, errno, changed, other)
			}
		}
	}
}

func TestLoadsReader(t *testing.T) {
	// A fault that was there ahead.
	in := wire.NewReader([]byte("\x02" + saved(made(t))))
	in.Flag()
	if r, errno := Load(in); r != nil || errno != api.ErrWire {
		t.Errorf("O7: with a fault ahead: %v, %d; want nil, ErrWire", r != nil, errno)
	}
	// Bytes that end, wherever that is.
	for _, r := range []*Room{made(t), filled(t)} {
		whole := saved(r)
		for n := range len(whole) {
			hurt(t, "less bytes", whole[:n])
		}
		loaded(t, whole)
	}
	hurt(t, "nothing", "")
	// Counts that say too much.
	for _, s := range []string{"\xff\xff\xff\xff\xff\xff\xff\xff\xff\x01", "\xff\xff\xff\xff\x0f", "\xff\x01", "\x80\x00"} {
		b := bare()
		b.id = s
		check(t, "a count", b, false)
		b = bare()
		b.users = s
		check(t, "a count", b, false)
		b = bare()
		b.creator = s
		check(t, "a count", b, false)
		l := leveled()
		l.levels = s
		check(t, "a count", l, false)
		l = leveled()
		l.needs = s
		check(t, "a count", l, false)
	}
}

func TestLoadsNames(t *testing.T) {
	for id, ok := range map[string]bool{
		"!r": true, "!Ab:c": true, "!" + strings.Repeat("r", 59): true,
		"": false, "r": false, "!": false, "$r": false, "@a:home": false, "!é": false, "!\xff": false, "! ": false, "!" + strings.Repeat("r", 60): false,
	} {
		s := bare()
		s.id = text(id)
		check(t, "the id "+id, s, ok)
	}
	for name, ok := range map[string]bool{
		"@a:home": true, "@a.b=c/d-e_f:x.y-z": true, "@" + strings.Repeat("a", 57) + ":h": true,
		"": false, "a": false, "@a": false, "@a:": false, "@:h": false, "@A:home": false, "@a:home:1": false, "a:home": false, "!r": false, "@\xff:home": false, "@a:é": false, "@" + strings.Repeat("a", 58) + ":h": false,
	} {
		s := bare()
		s.users = counted(text(name) + "\x02\x00")
		check(t, "the user "+name, s, ok)
		s = bare()
		s.creator = text(name)
		check(t, "the creator "+name, s, ok || name == "")
		s = leveled()
		s.levels = counted(text(name) + "\x02")
		check(t, "the level of "+name, s, ok)
	}
	for key, ok := range map[string]bool{
		"": true, "room": true, "é": true, "\x00": true, "@a": true, "😀": true, strings.Repeat("k", 3000): true,
		"\xff": false, "a\xc3": false, "\xed\xa0\x80": false, "\xc0\x80": false, "\xf4\x90\x80\x80": false,
	} {
		s := leveled()
		s.needs = counted(text(key) + "\x02")
		check(t, "the need "+key, s, ok)
	}
}

func TestLoadsUsers(t *testing.T) {
	for n := int64(-2); n < 8; n++ {
		for display, right := range map[string]bool{"": true, "B": true, "é\x00": true, strings.Repeat("x", 3000): true, "\xff": false, "a\xc3": false, "\xed\xa0\x80": false} {
			s := bare()
			s.users = counted(text("@b:home") + number(n) + text(display))
			check(t, fmt.Sprintf("the membership %d with the display %q", n, display), s, right && (n == 1 || 0 <= n && n <= 3 && display == ""))
		}
	}
	for _, n := range []int64{1 << 32, 1<<32 + 1, 1<<62 + 1, -1 << 63, 1<<63 - 1, 257, 256} {
		s := bare()
		s.users = counted(text("@b:home") + number(n) + text(""))
		check(t, "a great membership", s, false)
	}
}

func TestLoadsOrder(t *testing.T) {
	type list func(keys ...string) sheet
	item := func(tail string, keys []string) string {
		var items []string
		for _, key := range keys {
			items = append(items, text(key)+tail)
		}
		return counted(items...)
	}
	users := func(keys ...string) sheet { s := bare(); s.users = item("\x02\x01D", keys); return s }
	levels := func(keys ...string) sheet { s := leveled(); s.levels = item("\x07", keys); return s }
	needs := func(keys ...string) sheet { s := leveled(); s.needs = item("\x07", keys); return s }
	for _, l := range []list{users, levels, needs} {
		check(t, "two", l("@a:h", "@b:h"), true)
		check(t, "a beginning ahead", l("@a:h", "@a:ha", "@a:hb", "@aa:h"), true)
		check(t, "byte by byte", l("@a-:h", "@a.:h", "@a/:h", "@a0:h", "@a:h", "@a=:h", "@a_:h", "@aa:h"), true)
		check(t, "two that fall", l("@b:h", "@a:h"), false)
		check(t, "three that fall", l("@a:h", "@c:h", "@b:h"), false)
		check(t, "three that fall", l("@b:h", "@a:h", "@c:h"), false)
		check(t, "a beginning behind", l("@a:ha", "@a:h"), false)
		check(t, "one twice", l("@a:h", "@a:h"), false)
		check(t, "one twice", l("@a:h", "@b:h", "@b:h"), false)
		check(t, "one twice", l("@a:h", "@b:h", "@a:h"), false)
		check(t, "none", l(), true)
	}
	check(t, "the empty key", needs("", "a"), true)
	check(t, "the empty key twice", needs("", ""), false)
	check(t, "the empty key behind", needs("a", ""), false)
	check(t, "signs", needs("z", "é", "ﬀ", "😀"), true)
	check(t, "signs", needs("😀", "ﬀ"), false)
	// How many: sixty, and sixty-four.
	for most, l := range map[int][]list{api.MaxUsers: {users}, api.MaxItems: {levels, needs}} {
		var keys []string
		for n := range most + 2 {
			keys = append(keys, nth(n))
		}
		for _, one := range l {
			check(t, "all", one(keys[:most]...), true)
			check(t, "one more", one(keys[:most+1]...), false)
			check(t, "two more", one(keys...), false)
		}
	}
	// The keys of one list have nothing to do with those of another.
	s := levels("@a:h", "@b:h")
	s.users, s.needs, s.creator = users("@a:h", "@b:h").users, needs("@a:h", "@b:h").needs, text("@a:h")
	check(t, "the same names", s, true)
}

func TestLoadsNumbers(t *testing.T) {
	for n, ok := range map[int64]bool{0: true, 1: true, -1: true, 1000: true, -1000: true, 1001: false, -1001: false, 1 << 32: false, 1<<32 + 1: false, -1 << 63: false, 1<<63 - 1: false} {
		s := leveled()
		s.others = number(n)
		check(t, fmt.Sprint("default ", n), s, ok)
		s = leveled()
		s.levels = counted(text("@a:h") + number(n))
		check(t, fmt.Sprint("the level ", n), s, ok)
		s.levels = counted(text("@a:h")+"\x00", text("@b:h")+number(n))
		check(t, fmt.Sprint("the second level ", n), s, ok)
		s = leveled()
		s.needs = counted(text("a") + number(n))
		check(t, fmt.Sprint("the need ", n), s, ok)
		s.needs = counted(text("a")+number(n), text("b")+"\x00")
		check(t, fmt.Sprint("the first need ", n), s, ok)
	}
	// As long as no levels have come, there are none.
	for _, c := range []struct{ others, levels, needs string }{{"\x02", "\x00", "\x00"}, {"\x01", "\x00", "\x00"}, {"\x00", "\x01\x04@a:h\x02", "\x00"}, {"\x00", "\x01\x04@a:h\x00", "\x00"}, {"\x00", "\x00", "\x01\x00\x00"}, {"\x00", "\x00", "\x01\x01a\x02"}, {"\x02", "\x01\x04@a:h\x02", "\x01\x01a\x02"}} {
		s := bare()
		s.others, s.levels, s.needs = c.others, c.levels, c.needs
		check(t, "levels that have not come", s, false)
		s.come = "\x01"
		check(t, "levels", s, true)
		s.come = "\x02"
		check(t, "no truth", s, false)
	}
}
