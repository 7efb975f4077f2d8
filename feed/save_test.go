package feed

import (
	"fmt"
	"math"
	"strconv"
	"strings"
	"testing"

	"tocsin/api"
	"tocsin/wire"
)

// loaded reads a hub, and wants that just its bytes are read, and that it is saved as the same.
func loaded(t testing.TB, bytes string) *Hub {
	t.Helper()
	in := wire.NewReader([]byte(bytes + "\x04more"))
	h, errno := Load(in)
	if h == nil || errno != api.OK {
		t.Fatalf("Z5: Load(%.200q): %v, %d; want a hub, OK", bytes, h != nil, errno)
	}
	if in.Text() != "more" || !in.End() {
		t.Errorf("Z5: behind Load(%.200q) the reader is not just behind what was read: %v", bytes, in.Err())
	}
	if saved(h) != bytes {
		t.Errorf("Z5: %.200q is saved as %.200q", bytes, saved(h))
	}
	return h
}

// hurt wants that bytes are refused.
func hurt(t testing.TB, what, bytes string) {
	t.Helper()
	if h, errno := Load(wire.NewReader([]byte(bytes))); h != nil || errno != api.ErrWire {
		t.Errorf("Z5, P2: Load of %s, %.200q: %v, %d; want nil, ErrWire", what, bytes, h != nil, errno)
	}
}

// manySheets is a user with so many sheets, the first one empty, if it is the sheet 0; in all others stands their place here.
func manySheets(user string, last int64, many int) string {
	var sheets []string
	for i := range many {
		if int64(i) == int64(many)-1-last {
			sheets = append(sheets, saidSheet())
			continue
		}
		sheets = append(sheets, saidSheet(api.Count{Room: "!r", Unread: i}))
	}
	return saidUser(user, last, sheets...)
}

// filled is a hub with three users, one of them with nothing in the present sheet, and with others who have none.
func filled() *Hub {
	h := New()
	h.Put("@b", counts("!r 1 0"))
	h.Put("@a", counts("!s 0 0, !r -1 2"))
	h.Put("@none", nil)
	h.Put("@a", counts("!s 0 0"))
	h.Put("", counts("!s 64 9223372036854775807"))
	h.Put("", nil)
	h.Put("@a", counts("!s 0 0, !s 0 0"))
	h.Since("@c", "")
	return h
}

const filledBytes = "\x03" +
	"\x00\x04\x03" + "\x00" + "\x01\x02!s\x80\x01\xfe\xff\xff\xff\xff\xff\xff\xff\xff\x01" + "\x00" +
	"\x02@a\x04\x03" + "\x00" + "\x02\x02!r\x01\x04\x02!s\x00\x00" + "\x01\x02!s\x00\x00" +
	"\x02@b\x02\x02" + "\x00" + "\x01\x02!r\x02\x00"

func TestSave(t *testing.T) { // Z5
	h := filled()
	for range 20 { // whatever the order of a map
		if got := saved(h); got != filledBytes {
			t.Fatalf("Z5, P4: saved as\n%q, want\n%q", got, filledBytes)
		}
	}
	// Behind what was written before, and what is written then.
	w := wire.NewWriter()
	w.Int(7)
	h.Save(w)
	h.Save(w)
	if string(w.Bytes()) != "\x0e"+filledBytes+filledBytes {
		t.Error("Z5: Save does not write behind what was written")
	}
	in := wire.NewReader(w.Bytes())
	in.Int()
	for range 2 {
		if l, errno := Load(in); errno != api.OK || saved(l) != filledBytes {
			t.Errorf("Z5: Load from the middle: %d", errno)
		}
	}
	if !in.End() {
		t.Errorf("Z5: bytes are left: %v", in.Err())
	}
	// What is loaded goes on apart from the other one.
	l := loaded(t, filledBytes)
	l.Put("@a", counts("!r 5 5"))
	l.Put("@new", counts("!r 5 5"))
	if saved(h) != filledBytes || saved(l) == filledBytes {
		t.Error("Z5, P4: what is done to a loaded hub is not done to it alone")
	}
}

func TestSaveOfUsersInOrder(t *testing.T) { // Z5: byte by byte, a beginning ahead of what goes on from it
	h := New()
	for _, user := range []string{"b", "\xff", "ab", "a", "", "B", "\x00", "a\x00", "é", "aa", "\x7f", "\x80"} {
		h.Put(user, counts("!r 1 0"))
	}
	want := "\x0c"
	for _, user := range []string{"", "\x00", "B", "a", "a\x00", "aa", "ab", "b", "\x7f", "\x80", "é", "\xff"} {
		want += saidUser(user, 1, saidSheet(), saidSheet(counts("!r 1 0")...))
	}
	if got := saved(h); got != want {
		t.Errorf("Z5: saved as\n%q, want\n%q", got, want)
	}
	loaded(t, want)
}

func TestSaveOfAll(t *testing.T) { // Z5: at each number about MaxHistory
	h, want := New(), []string{saidSheet()}
	for last := 1; last <= 110; last++ {
		list := counts("!r " + strconv.Itoa(last) + " 0")
		h.Put("@a", list)
		want = append(want, saidSheet(list...))
		want = want[max(0, len(want)-51):]
		bytes := counted(saidUser("@a", int64(last), want...))
		if got := saved(h); got != bytes {
			t.Fatalf("Z5: at %d: saved as %q, want %q", last, got, bytes)
		}
		h = loaded(t, bytes)
	}
}

func TestLoadedGoesOn(t *testing.T) { // Z5
	a := asker{t, loaded(t, filledBytes)}
	a.asks("@a", "", "!s 0 0", "", true, "2")
	a.asks("@a", "1", "", "!r", false, "2")
	a.asks("@a", "0", "!s 0 0", "", false, "2")
	a.refuses("@a", "3")
	a.asks("", "1", "", "!s", false, "2")
	a.asks("@none", "0", "", "", false, "0")
	a.refuses("@none", "1")
	a.hub.Put("@a", counts("!s 0 0"))
	a.asks("@a", "2", "", "", false, "2")
	a.hub.Put("@a", counts("!s 1 0"))
	a.asks("@a", "1", "!s 1 0", "!r", false, "3")
	a.hub.Put("@none", counts("!s 1 0"))
	a.asks("@none", "0", "!s 1 0", "", false, "1")
}

func TestLoadRefusesCutBytes(t *testing.T) { // Z5
	for i := range len(filledBytes) {
		hurt(t, "cut bytes", filledBytes[:i])
	}
	hurt(t, "a count that is too long", "\x83\x00"+filledBytes[1:])
	loaded(t, filledBytes)
	loaded(t, "\x00")
	for _, bytes := range []string{filledBytes, "\x00"} {
		in := wire.NewReader([]byte("\x02" + bytes))
		in.Flag() // a fault ahead
		if h, errno := Load(in); h != nil || errno != api.ErrWire {
			t.Errorf("Z5: Load from a reader with a fault: %v, %d", h != nil, errno)
		}
	}
	in := wire.NewReader(nil)
	if h, errno := Load(in); h != nil || errno != api.ErrWire {
		t.Errorf("Z5: Load of nothing: %v, %d", h != nil, errno)
	}
}

func TestLoadOfUsers(t *testing.T) { // Z5: they rise
	for _, users := range [][]string{{"@a", "@b"}, {"", "@a"}, {"@a", "@a\x00"}, {"\x7f", "\x80"}, {"B", "a"}, {"@a", "@b", "@c", "@d"}} {
		loaded(t, saidUsers(users))
	}
	for _, users := range [][]string{
		{"@a", "@a"}, {"", ""}, {"@b", "@a"}, {"@a", ""}, {"@ab", "@a"}, {"\x80", "\x7f"}, {"a", "B"}, {"@a", "@c", "@b"}, {"@a", "@b", "@b"}, {"@b", "@a", "@c"},
	} {
		hurt(t, fmt.Sprintf("the users %q", users), saidUsers(users))
	}
}

func saidUsers(users []string) string {
	var all []string
	for _, user := range users {
		all = append(all, manySheets(user, 1, 2))
	}
	return counted(all...)
}

func TestLoadOfNumbers(t *testing.T) { // Z5: as many sheets as are kept at a number, from 1 to MaxInt
	for _, last := range []int64{1, 2, 3, 49, 50, 51, 52, 53, 100, 101, 1 << 32, 9007199254740990, 9007199254740991} {
		for many := range 54 {
			bytes := counted(manySheets("@a", last, many))
			if int64(many) == min(last, 50)+1 {
				loaded(t, bytes)
			} else {
				hurt(t, fmt.Sprint(many, " sheets at ", last), bytes)
			}
		}
	}
	for _, last := range []int64{0, -1, -2, -49, -50, -51, 9007199254740992, 1 << 62, math.MaxInt64, math.MaxInt64 - 50, math.MinInt64, math.MinInt64 + 50, math.MinInt64 + 51, 1<<32 - 1<<33} {
		for many := range 53 {
			hurt(t, fmt.Sprint(many, " sheets at ", last), counted(manySheets("@a", last, many)))
			hurt(t, fmt.Sprint(many, " sheets at ", last), counted(manySheets("@a", 1, 2), manySheets("@b", last, many)))
		}
	}
}

func TestLoadOfSheetNought(t *testing.T) { // Z5: it is empty; another first one may be anything
	one, two := saidSheet(counts("!r 1 0")...), saidSheet(counts("!r 2 0")...)
	loaded(t, counted(saidUser("@a", 1, saidSheet(), one)))
	hurt(t, "a first sheet 0 that is not empty", counted(saidUser("@a", 1, one, two)))
	hurt(t, "a first sheet 0 that is not empty", counted(saidUser("@a", 1, one, saidSheet())))
	for _, last := range []int64{50, 51, 52} {
		for name, first := range map[string]string{"empty": saidSheet(), "not empty": saidSheet(counts("!r -1 0")...)} {
			sheets := []string{first}
			for i := range 50 {
				sheets = append(sheets, saidSheet(api.Count{Room: "!r", Unread: i}))
			}
			bytes := counted(saidUser("@a", last, sheets...))
			if last == 50 && name == "not empty" {
				hurt(t, "a first sheet 0 that is not empty", bytes)
			} else {
				loaded(t, bytes)
			}
		}
	}
}

func TestLoadOfSheets(t *testing.T) { // Z5: rooms rise; none is the same as the one ahead of it
	sheets := func(lists ...string) string {
		said := []string{saidSheet()}
		for _, list := range lists {
			said = append(said, saidSheet(counts(list)...))
		}
		return counted(manySheets("@", 3, 4), saidUser("@a", int64(len(lists)), said...))
	}
	for _, lists := range [][]string{
		{"!r 1 0, !s 1 0"}, {"!r 1 0", ""}, {"!r 1 0", "!r 1 1", "!r 1 0"}, {"!r 1 0", "", "!r 1 0"}, {"!r 1 0, !r2 1 0, !s 1 0"}, {"!R 1 0, !r 1 0"}, {"!r -1 -1"},
		{"!r 1 0", "!s 1 0"}, {"!r 9223372036854775807 -9223372036854775808"},
	} {
		loaded(t, sheets(lists...))
	}
	for _, lists := range [][]string{
		{"!s 1 0, !r 1 0"}, {"!r 1 0, !r 1 0"}, {"!r 1 0, !r 2 0"}, {"!r 2 0, !r 1 0"}, {"!q 1 0, !s 1 0, !r 1 0"}, {"!q 1 0, !s 1 0, !s 1 0"}, {"!r2 1 0, !r 1 0"}, {"!r 1 0, !R 1 0"},
		{""}, {"!r 1 0", "!r 1 0"}, {"!r 1 0", "", ""}, {"!r 1 0", "!r 2 0", "!r 2 0"}, {"", "!r 2 0"}, {"!r 1 0, !s 1 0", "!r 1 0, !s 1 0"}, {"!r 1 0", "!s 1 0, !r 1 0"},
	} {
		hurt(t, fmt.Sprintf("the sheets %q", lists), sheets(lists...))
	}
	for _, rooms := range [][2]string{{"", "\x00"}, {"\x7f", "\x80"}, {"é", "\xff"}} {
		one, other := api.Count{Room: rooms[0]}, api.Count{Room: rooms[1]}
		loaded(t, counted(saidUser("@a", 1, saidSheet(), saidSheet(one, other))))
		hurt(t, fmt.Sprintf("rooms that fall, %q", rooms), counted(saidUser("@a", 1, saidSheet(), saidSheet(other, one))))
	}
}

func TestLoadOfMany(t *testing.T) { // Z5: lists of at most 1000000 things
	t.Parallel()
	const most = 1000000
	for many, want := range map[int]api.Errno{most: api.OK, most + 1: api.ErrWire} {
		var users, rooms strings.Builder
		count := counted(make([]string, many)...)
		for i := range many {
			name := string([]byte{byte(i >> 16), byte(i >> 8), byte(i)})
			users.WriteString("\x03" + name + "\x02\x02\x00\x01\x00\x00\x00")
			rooms.WriteString("\x03" + name + "\x00\x00")
		}
		for what, bytes := range map[string]string{
			"users":  count + users.String(),
			"counts": "\x01\x02@a\x02\x02\x00" + count + rooms.String(),
		} {
			h, errno := Load(wire.NewReader([]byte(bytes)))
			if errno != want || (h == nil) != (want != api.OK) {
				t.Errorf("Z5: Load of %d %s: %v, %d; want %d", many, what, h != nil, errno, want)
			}
			if h != nil && saved(h) != bytes {
				t.Errorf("Z5: %d %s are saved otherwise", many, what)
			}
		}
	}
	hurt(t, "a count that lies", "\xc0\x84\x3d")
	hurt(t, "a count above all", "\xff\xff\xff\xff\xff\xff\xff\xff\xff\x01")
	hurt(t, "a count of sheets above all", "\x01\x00\x02\xff\xff\xff\xff\xff\xff\xff\xff\xff\x01")
}

func TestNilIsNoPanic(t *testing.T) { // P1
	filled().Save(nil)
	if h, errno := Load(nil); h != nil || errno != api.ErrWire {
		t.Errorf("Load from nothing: %v, %d", h != nil, errno)
	}
}
