package counts

import (
	"fmt"
	"math"
	"strings"
	"testing"

	"tocsin/api"
	"tocsin/wire"
)

// loaded reads a book, and wants that just its bytes are read, and that it is saved as the same.
func loaded(t testing.TB, bytes string) *Book {
	t.Helper()
	in := wire.NewReader([]byte(bytes + "\x04more"))
	b, errno := Load(in)
	if b == nil || errno != api.OK {
		t.Fatalf("N7: Load(%.200q): %v, %d; want a book, OK", bytes, b != nil, errno)
	}
	if in.Text() != "more" || !in.End() {
		t.Errorf("N7: behind Load(%.200q) the reader is not just behind what was read: %v", bytes, in.Err())
	}
	if saved(b) != bytes {
		t.Errorf("N7: %.200q is saved as %.200q", bytes, saved(b))
	}
	return b
}

// hurt wants that bytes are refused.
func hurt(t testing.TB, what, bytes string) {
	t.Helper()
	if b, errno := Load(wire.NewReader([]byte(bytes))); b != nil || errno != api.ErrWire {
		t.Errorf("N7, P2: Load of %s, %.200q: %v, %d; want nil, ErrWire", what, bytes, b != nil, errno)
	}
}

// filled is a book of five events, one of them taken back, with marks and notes.
func filled(t testing.TB) *Book {
	r := asker{t, New()}
	for i, room := range []string{"!s", "!r", "!s", "!r", "!r"} {
		r.event(room, []string{"$5", "$4", "$3", "$2", ""}[i], i+1, api.OK)
	}
	r.note("@b", "!r", "", loud, api.OK)
	r.note("@b", "!s", "$5", yes, api.OK)
	r.note("@b", "!r", "$4", yes, api.OK)
	r.note("@ab", "!s", "$3", loud, api.OK)
	r.note("@a", "!r", "", yes, api.OK)
	r.note("", "!r", "$4", yes, api.OK)
	r.note("@c", "!r", "$2", yes, api.OK)
	r.receipt("@c", "!s", "$3", true)
	r.receipt("@c", "!r", "$4", true)
	r.receipt("@b", "!s", "$5", true)
	r.receipt("@ab", "!r", "", true)
	r.book.Leave("", "")
	r.redact("!r", "$2", true)
	return r.book
}

const filledBytes = "\x05" + "\x02!s\x02$5\x00" + "\x02!r\x02$4\x00" + "\x02!s\x02$3\x00" + "\x02!r\x02$2\x01" + "\x02!r\x00\x00" +
	"\x05" + "\x00\x00\x0a" + "\x03@ab\x02!r\x0a" + "\x02@b\x02!s\x02" + "\x02@c\x02!r\x04" + "\x02@c\x02!s\x06" +
	"\x05" + "\x00\x04\x00" + "\x02@a\x0a\x00" + "\x03@ab\x06\x01" + "\x02@b\x04\x00" + "\x02@b\x0a\x01"

func TestSave(t *testing.T) {
	b := filled(t)
	for range 20 { // whatever the order of a map
		if got := saved(b); got != filledBytes {
			t.Fatalf("N7, P4: saved as\n%q, want\n%q", got, filledBytes)
		}
	}
	loaded(t, filledBytes)
	// Behind what was written before, and what is written then.
	w := wire.NewWriter()
	w.Int(7)
	b.Save(w)
	b.Save(w)
	if string(w.Bytes()) != "\x0e"+filledBytes+filledBytes {
		t.Error("N7: Save does not write behind what was written")
	}
	in := wire.NewReader(w.Bytes())
	in.Int()
	for range 2 {
		if c, errno := Load(in); errno != api.OK || saved(c) != filledBytes {
			t.Errorf("N7: Load from the middle: %d", errno)
		}
	}
	if !in.End() {
		t.Errorf("N7: bytes are left: %v", in.Err())
	}
	// What is loaded goes on apart from the other one.
	c := loaded(t, filledBytes)
	c.Event("!new", "$new")
	c.Redact("!r", "$4")
	c.Leave("@b", "!r")
	if saved(b) != filledBytes || saved(c) == filledBytes {
		t.Error("N7, P4: what is done to a loaded book is not done to it alone")
	}
}

func TestLoadedGoesOn(t *testing.T) {
	r := asker{t, loaded(t, filledBytes)}
	r.counts("@b", "!r", "2, 1")
	r.counts("@b", "!s", "0, 0")
	r.counts("@ab", "!s", "1, 1")
	r.counts("", "!r", "1, 0")
	r.rotate(5)
	r.event("!x", "$3", 0, api.ErrKnown)
	r.event("!x", "", 0, api.ErrKnown)
	r.event("!x", "$6", 6, api.OK)
	r.redact("!r", "$2", false)
	r.note("@c", "!r", "$4", loud, api.OK)
	r.counts("@c", "!r", "0, 0")
	r.receipt("@c", "!r", "$4", false)
	r.receipt("@c", "!r", "$2", true)
	r.redact("!r", "$4", true)
	r.counts("@b", "!r", "1, 1")
	r.note("@c", "!r", "", loud, api.OK)
	r.counts("@c", "!r", "1, 1")
	r.rotate(4)
}

func TestLoadRefusesCutBytes(t *testing.T) {
	for i := range len(filledBytes) {
		hurt(t, "cut bytes", filledBytes[:i])
	}
	hurt(t, "nothing", "")
	loaded(t, "\x00\x00\x00")
}

// saidEvent, saidMark and saidNote are an event, a mark and a note as they are saved.
func saidEvent(room, event string, back bool) string { return text(room) + text(event) + truth(back) }

func saidMark(user, room string, at int64) string { return text(user) + text(room) + number(at) }

func saidNote(user string, at int64, highlight bool) string {
	return text(user) + number(at) + truth(highlight)
}

func TestLoadRefusesTheStream(t *testing.T) {
	one := saidEvent("!r", "$1", false)
	for _, again := range []string{one, saidEvent("!s", "$1", false), saidEvent("!r", "$1", true)} {
		hurt(t, "a name twice", counted(one, again)+"\x00\x00")
		hurt(t, "a name twice", counted(one, saidEvent("!r", "$2", false), again)+"\x00\x00")
	}
	hurt(t, "the empty name twice", counted(saidEvent("!r", "", false), saidEvent("!r", "", false))+"\x00\x00")
	loaded(t, counted(one, saidEvent("!r", "", true), saidEvent("!r", "$0", false))+"\x00\x00")
	hurt(t, "a truth of 2", counted(text("!r")+text("$1")+"\x02")+"\x00\x00")
	hurt(t, "a count that is too long", "\x81\x00"+one+"\x00\x00")
}

func TestLoadRefusesMarks(t *testing.T) {
	stream := counted(saidEvent("!r", "$1", false), saidEvent("!s", "$2", true), saidEvent("!r", "$3", false))
	bytes := func(marks ...string) string { return stream + counted(marks...) + "\x00" }
	for _, at := range []int64{1, 2, 3} {
		loaded(t, bytes(saidMark("@a", "!r", at))) // of any event, of whatever room, taken back or not
		loaded(t, bytes(saidMark("@a", "!none", at)))
	}
	for _, at := range []int64{0, -1, 4, 1 << 32, 1<<32 + 1, math.MaxInt64, math.MinInt64, math.MinInt64 + 1} {
		hurt(t, fmt.Sprint("a mark at ", at), bytes(saidMark("@a", "!r", at)))
		hurt(t, fmt.Sprint("a mark at ", at), bytes(saidMark("", "", 1), saidMark("@a", "!r", at)))
	}
	hurt(t, "a mark without events", "\x00"+counted(saidMark("@a", "!r", 1))+"\x00")
	loaded(t, bytes(saidMark("", "", 1), saidMark("", "!r", 1), saidMark("@a", "!s", 2), saidMark("@ab", "", 1), saidMark("@ab", "!", 3), saidMark("@ab", "!r", 1), saidMark("@b", "!r", 1), saidMark("\xff", "", 1)))
	for what, row := range map[string][]string{
		"users out of order":       {saidMark("@b", "!r", 1), saidMark("@a", "!r", 1)},
		"users behind who go on":   {saidMark("@ab", "!r", 1), saidMark("@a", "!r", 1)},
		"the empty user behind":    {saidMark("@a", "!r", 1), saidMark("", "!r", 1)},
		"rooms out of order":       {saidMark("@a", "!s", 1), saidMark("@a", "!r", 1)},
		"rooms behind who go on":   {saidMark("@a", "!rr", 1), saidMark("@a", "!r", 1)},
		"the empty room behind":    {saidMark("@a", "!r", 1), saidMark("@a", "", 1)},
		"one twice":                {saidMark("@a", "!r", 1), saidMark("@a", "!r", 1)},
		"one twice, another place": {saidMark("@a", "!r", 1), saidMark("@a", "!r", 2)},
		"one twice, far apart":     {saidMark("@a", "!r", 1), saidMark("@a", "!s", 2), saidMark("@a", "!r", 2)},
		"high bytes ahead of low":  {saidMark("\x80", "!r", 1), saidMark("\x7f", "!r", 1)},
		"by rooms, then users":     {saidMark("@b", "!r", 1), saidMark("@a", "!s", 1)},
		"the last one behind":      {saidMark("@a", "!r", 1), saidMark("@c", "!r", 1), saidMark("@b", "!r", 1)},
	} {
		hurt(t, what, bytes(row...))
	}
}

func TestLoadRefusesNotes(t *testing.T) {
	stream := counted(saidEvent("!r", "$1", false), saidEvent("!s", "$2", true), saidEvent("!r", "$3", false), saidEvent("!s", "$4", false))
	marked := counted(saidMark("@a", "!r", 1), saidMark("@b", "!s", 3))
	bytes := func(notes ...string) string { return stream + marked + counted(notes...) }
	for _, at := range []int64{0, -1, 5, 1 << 32, 1<<32 + 3, math.MaxInt64, math.MinInt64, math.MinInt64 + 1} {
		hurt(t, fmt.Sprint("a note at ", at), bytes(saidNote("@c", at, false)))
		hurt(t, fmt.Sprint("a note at ", at), bytes(saidNote("@a", 3, true), saidNote("@c", at, true)))
	}
	hurt(t, "a note without events", "\x00\x00"+counted(saidNote("@a", 1, false)))
	hurt(t, "a note at the mark", bytes(saidNote("@a", 1, false)))
	hurt(t, "a note of what is taken back", bytes(saidNote("@c", 2, true)))
	hurt(t, "a note below the mark", stream+counted(saidMark("@a", "!r", 2))+counted(saidNote("@a", 1, true)))
	loaded(t, bytes(saidNote("@a", 3, false), saidNote("@a", 4, true), saidNote("@b", 1, true), saidNote("@b", 3, true), saidNote("@b", 4, false), saidNote("@c", 1, false)))
	loaded(t, bytes(saidNote("", 1, true), saidNote("", 3, true), saidNote("\x00", 1, false), saidNote("@ab", 1, true), saidNote("\xff\xff", 4, true)))
	for what, row := range map[string][]string{
		"users out of order":           {saidNote("@c", 1, true), saidNote("@a", 3, true)},
		"users behind who go on":       {saidNote("@cc", 1, true), saidNote("@c", 3, true)},
		"the empty user behind":        {saidNote("@c", 1, true), saidNote("", 3, true)},
		"places out of order":          {saidNote("@c", 3, true), saidNote("@c", 1, true)},
		"one twice":                    {saidNote("@c", 1, true), saidNote("@c", 1, true)},
		"one twice, once a highlight":  {saidNote("@c", 1, false), saidNote("@c", 1, true)},
		"one twice, far apart":         {saidNote("@c", 1, false), saidNote("@c", 3, true), saidNote("@c", 1, true)},
		"by places, then users":        {saidNote("@c", 1, true), saidNote("@b", 3, true)},
		"high bytes ahead of low ones": {saidNote("\x80", 1, true), saidNote("\x7f", 1, true)},
	} {
		hurt(t, what, bytes(row...))
	}
	hurt(t, "a truth of 2", bytes(text("@c")+number(1)+"\x02"))
}

func TestLoadOfReaders(t *testing.T) {
	if b, errno := Load(nil); b != nil || errno != api.ErrWire {
		t.Errorf("P1: Load(nil): %v, %d", b, errno)
	}
	if b, errno := Load(&wire.Reader{}); b != nil || errno != api.ErrWire {
		t.Errorf("P1: Load of a reader of nothing: %v, %d", b, errno)
	}
	in := wire.NewReader([]byte("\x02" + filledBytes))
	in.Flag() // there is a fault ahead
	if b, errno := Load(in); b != nil || errno != api.ErrWire {
		t.Errorf("N7: Load behind a fault: %v, %d", b, errno)
	}
	New().Save(nil)
	w := &wire.Writer{}
	filled(t).Save(w)
	if string(w.Bytes()) != filledBytes {
		t.Errorf("N7: saved as %q", w.Bytes())
	}
}

// each is a row of so many things, of which the one gives each by its number.
func each(many int, one func(i int) string) string {
	w := wire.NewWriter()
	wire.WriteList(w, make([]struct{}, many), func(*wire.Writer, struct{}) {})
	var all strings.Builder
	all.Write(w.Bytes())
	for i := range many {
		all.WriteString(one(i))
	}
	return all.String()
}

// rank is a text; those of greater numbers stand behind.
func rank(i int) string { return string([]byte{byte(i >> 16), byte(i >> 8), byte(i)}) }

func TestLoadStreamAtTheBound(t *testing.T) {
	t.Parallel()
	event := func(i int) string { return saidEvent("!r", rank(i), i%2 == 0) }
	r := asker{t, loaded(t, each(5000, event)+"\x00\x00")}
	r.event("!r", "$new", 0, api.ErrStream)
	r.note("@a", "!r", rank(4999), yes, api.OK)
	r.counts("@a", "!r", "1, 0")
	hurt(t, "5001 events", each(5001, event)+"\x00\x00")
	hurt(t, "5001 events, of which none is there", each(5001, func(int) string { return "" }))
	r.book = loaded(t, each(4999, event)+counted(saidMark("@a", "!r", 4999))+"\x00")
	r.event("!r", "$new", 5000, api.OK)
	hurt(t, "a mark behind 4999 events", each(4999, event)+counted(saidMark("@a", "!r", 5000))+"\x00")
}

func TestLoadListsAtTheBound(t *testing.T) {
	t.Parallel()
	stream := counted(saidEvent("!r", "$1", false))
	mark := func(i int) string { return saidMark(rank(i), "", 1) }
	note := func(i int) string { return saidNote(rank(i), 1, i%5 == 0) }
	const most = 1000000
	r := asker{t, loaded(t, stream+each(most, mark)+each(most, note))}
	r.rotate(most)
	r.counts(rank(most-1), "!r", "1, 0")
	r.counts(rank(most), "!r", "0, 0")
	hurt(t, "a mark too many", stream+each(most+1, mark)+"\x00")
	hurt(t, "a note too many", stream+"\x00"+each(most+1, note))
	// A book may have more than Load reads.
	r.note(rank(most), "!r", "$1", loud, api.OK)
	r.rotate(most + 1)
	r.counts(rank(most), "!r", "1, 1")
	hurt(t, "what was saved with a note too many", saved(r.book))
	r.redact("!r", "$1", true)
	r.rotate(0)
}

func TestLoadCountsThatLie(t *testing.T) {
	for _, n := range []string{"\xff\xff\xff\xff\xff\xff\xff\xff\xff\x01", "\xc0\x84\x3d", "\x88\x27", "\xff\xff\xff\xff\x07"} {
		hurt(t, "a stream that is not there", n)
		hurt(t, "marks that are not there", "\x00"+n)
		hurt(t, "notes that are not there", "\x00\x00"+n)
	}
}
