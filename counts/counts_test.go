package counts

import (
	"fmt"
	"strconv"
	"strings"
	"testing"

	"tocsin/api"
	"tocsin/wire"
)

// The calls are as they were given.
var (
	_ func() *Book                                                                   = New
	_ func(b *Book, room string, event string) (int, api.Errno)                      = (*Book).Event
	_ func(b *Book, user string, room string, event string, a api.Actions) api.Errno = (*Book).Note
	_ func(b *Book, user string, room string, event string) bool                     = (*Book).Receipt
	_ func(b *Book, room string, event string) bool                                  = (*Book).Redact
	_ func(b *Book, user string, room string)                                        = (*Book).Leave
	_ func(b *Book, user string, room string) (unread int, highlight int)            = (*Book).Counts
	_ func(b *Book) int                                                              = (*Book).Rotate
	_ func(b *Book, w *wire.Writer)                                                  = (*Book).Save
	_ func(r *wire.Reader) (*Book, api.Errno)                                        = Load
)

var (
	yes  = api.Actions{Notify: true}
	loud = api.Actions{Notify: true, Highlight: true, Sound: "ring"}
)

// counts tells both counters in one.
func counts(b *Book, user, room string) string {
	unread, highlight := b.Counts(user, room)
	return fmt.Sprintf("%d, %d", unread, highlight)
}

func saved(b *Book) string {
	w := wire.NewWriter()
	b.Save(w)
	return string(w.Bytes())
}

// An asker asks a book, and wants what is expected.
type asker struct {
	testing.TB
	book *Book
}

func newAsker(t testing.TB) asker { return asker{t, New()} }

func (r asker) event(room, event string, place int, errno api.Errno) {
	r.Helper()
	if n, e := r.book.Event(room, event); n != place || e != errno {
		r.Errorf("N2: Event(%q, %q): %d, %d; want %d, %d", room, event, n, e, place, errno)
	}
}

func (r asker) note(user, room, event string, a api.Actions, errno api.Errno) {
	r.Helper()
	if e := r.book.Note(user, room, event, a); e != errno {
		r.Errorf("N2: Note(%q, %q, %q, %v): %d, want %d", user, room, event, a, e, errno)
	}
}

func (r asker) receipt(user, room, event string, changed bool) {
	r.Helper()
	if got := r.book.Receipt(user, room, event); got != changed {
		r.Errorf("N3: Receipt(%q, %q, %q): %v", user, room, event, got)
	}
}

func (r asker) redact(room, event string, changed bool) {
	r.Helper()
	if got := r.book.Redact(room, event); got != changed {
		r.Errorf("N4: Redact(%q, %q): %v", room, event, got)
	}
}

func (r asker) counts(user, room, want string) {
	r.Helper()
	if got := counts(r.book, user, room); got != want {
		r.Errorf("N5: Counts(%q, %q): %s; want %s", user, room, got, want)
	}
}

func (r asker) rotate(want int) {
	r.Helper()
	if got := r.book.Rotate(); got != want {
		r.Errorf("N6: Rotate: %d, want %d", got, want)
	}
}

func TestExamples(t *testing.T) {
	r := newAsker(t)
	r.event("!r", "$1", 1, api.OK)
	r.event("!s", "$2", 2, api.OK)
	r.event("!s", "$1", 0, api.ErrKnown)
	r.note("@a", "!r", "$1", yes, api.OK)
	r.note("@a", "!r", "$2", yes, api.ErrUnknown)
	r.counts("@a", "!r", "1, 0")
	r.note("@a", "!r", "$1", loud, api.OK)
	r.counts("@a", "!r", "1, 1")
	r.receipt("@a", "!r", "$2", false)
	r.receipt("@a", "!r", "$1", true)
	r.counts("@a", "!r", "0, 0")
	r.receipt("@a", "!r", "$1", false)
	r.event("!r", "$3", 3, api.OK)
	r.note("@a", "!r", "$3", loud, api.OK)
	r.counts("@a", "!r", "1, 1")
	r.book.Leave("@a", "!r")
	r.counts("@a", "!r", "0, 0")
	r.event("!r", "$4", 4, api.OK)
	r.note("@a", "!r", "$4", yes, api.OK)
	r.counts("@a", "!r", "1, 0")
	r.redact("!r", "$4", true)
	r.counts("@a", "!r", "0, 0")
	r.note("@a", "!r", "$4", yes, api.OK)
	r.counts("@a", "!r", "0, 0")
	r.rotate(0)
}

func TestNew(t *testing.T) {
	r := newAsker(t)
	r.counts("@a", "!r", "0, 0")
	r.counts("", "", "0, 0")
	r.note("@a", "!r", "$1", yes, api.ErrUnknown)
	r.note("", "", "", yes, api.ErrUnknown)
	r.receipt("@a", "!r", "$1", false)
	r.receipt("", "", "", false)
	r.redact("!r", "$1", false)
	r.redact("", "", false)
	r.rotate(0)
	if got := saved(r.book); got != "\x00\x00\x00" {
		t.Errorf("N1, N7: a new book is saved as %q", got)
	}
	r.event("", "", 1, api.OK)
}

func TestEvent(t *testing.T) {
	r := newAsker(t)
	rooms := []string{"!r", "!s", "", "!t", "!r"}
	for i, room := range rooms {
		r.event(room, "$"+strconv.Itoa(i), i+1, api.OK) // places go through all rooms
	}
	before := saved(r.book)
	for i := range rooms {
		for _, room := range append(rooms, "!new") {
			r.event(room, "$"+strconv.Itoa(i), 0, api.ErrKnown)
		}
	}
	if saved(r.book) != before {
		t.Error("P2: what was refused has changed the book")
	}
	// What was taken back, or read, is known.
	r.redact("!r", "$0", true)
	r.receipt("@a", "!s", "$1", true)
	r.event("!r", "$0", 0, api.ErrKnown)
	r.event("!s", "$1", 0, api.ErrKnown)
	r.event("!r", "!r", 6, api.OK)
	r.event("!r", "$5", 7, api.OK)
}

// full is a book of 5000 events $1, $2, .. of the rooms !0, !1 and !2, by turns.
func full(t testing.TB) asker {
	r := newAsker(t)
	for i := 1; i <= 5000; i++ {
		r.event("!"+strconv.Itoa(i%3), "$"+strconv.Itoa(i), i, api.OK)
	}
	return r
}

func TestEventAtTheBound(t *testing.T) {
	t.Parallel()
	r := full(t)
	before := saved(r.book)
	r.event("!0", "$5001", 0, api.ErrStream)
	r.event("!new", "", 0, api.ErrStream)
	r.event("!new", "$5000", 0, api.ErrKnown) // named ahead of the other one
	r.event("!1", "$1", 0, api.ErrKnown)
	if saved(r.book) != before {
		t.Error("P2: what was refused has changed the book")
	}
	r.note("@a", "!2", "$5000", yes, api.OK)
	r.note("@a", "!0", "$5001", yes, api.ErrUnknown)
	r.counts("@a", "!2", "1, 0")
	// No place comes free.
	r.redact("!1", "$1", true)
	r.book.Rotate()
	r.event("!0", "$5001", 0, api.ErrStream)
	r.book = loaded(t, saved(r.book))
	r.event("!0", "$5001", 0, api.ErrStream)
	r.event("!0", "$77", 0, api.ErrKnown)
	r.book.Leave("@a", "!2")
	r.counts("@a", "!2", "0, 0")
}

func TestNote(t *testing.T) {
	r := newAsker(t)
	for i, room := range []string{"!r", "!s", "!r", "!r"} {
		r.event(room, "$"+strconv.Itoa(i+1), i+1, api.OK)
	}
	for _, a := range []api.Actions{{}, {Highlight: true}, {Sound: "ring"}, {Highlight: true, Sound: "ring"}} {
		r.note("@a", "!r", "$1", a, api.ErrArg)
		r.note("@a", "!r", "$9", a, api.ErrUnknown) // named ahead of the other one
		r.note("@a", "!r", "$2", a, api.ErrUnknown)
	}
	r.note("@a", "!r", "", yes, api.ErrUnknown)
	r.note("@a", "", "$1", yes, api.ErrUnknown)
	r.note("@a", "$1", "!r", yes, api.ErrUnknown)
	r.counts("@a", "!r", "0, 0")
	r.rotate(0)
	r.note("@a", "!r", "$1", yes, api.OK)
	r.note("@a", "!r", "$3", loud, api.OK)
	r.note("@b", "!r", "$3", yes, api.OK)
	r.note("@a", "!s", "$2", loud, api.OK)
	r.counts("@a", "!r", "2, 1")
	r.counts("@b", "!r", "1, 0")
	r.counts("@a", "!s", "1, 1")
	r.counts("@b", "!s", "0, 0")
	r.rotate(4)
	// The last one says whether it is a highlight.
	for _, c := range []struct {
		a    api.Actions
		want string
	}{{loud, "2, 2"}, {loud, "2, 2"}, {yes, "2, 1"}, {yes, "2, 1"}, {api.Actions{Notify: true, Sound: "ring"}, "2, 1"}, {api.Actions{Notify: true, Highlight: true}, "2, 2"}} {
		r.note("@a", "!r", "$1", c.a, api.OK)
		r.counts("@a", "!r", c.want)
		r.rotate(4)
	}
	// What is refused takes away nothing.
	r.note("@a", "!r", "$1", api.Actions{}, api.ErrArg)
	r.counts("@a", "!r", "2, 2")
	r.counts("@b", "!r", "1, 0")
}

func TestNoteOfWhatIsRead(t *testing.T) {
	r := newAsker(t)
	for i := 1; i <= 4; i++ {
		r.event("!r", "$"+strconv.Itoa(i), i, api.OK)
	}
	r.receipt("@a", "!r", "$3", true)
	for _, event := range []string{"$1", "$2", "$3"} { // below the mark, and at it
		r.note("@a", "!r", event, loud, api.OK)
		r.counts("@a", "!r", "0, 0")
		r.note("@a", "!r", event, api.Actions{}, api.ErrArg)
		r.note("@b", "!r", event, loud, api.OK) // of another user nothing is read
	}
	r.note("@a", "!r", "$4", loud, api.OK) // above it
	r.counts("@a", "!r", "1, 1")
	r.counts("@b", "!r", "3, 3")
	r.rotate(4)
}

func TestNoteOfWhatIsTakenBack(t *testing.T) {
	r := newAsker(t)
	r.event("!r", "$1", 1, api.OK)
	r.redact("!r", "$1", true)
	r.note("@a", "!r", "$1", loud, api.OK)
	r.note("@a", "!r", "$1", api.Actions{}, api.ErrArg)
	r.note("@a", "!s", "$1", loud, api.ErrUnknown)
	r.counts("@a", "!r", "0, 0")
	r.rotate(0)
}

func TestReceipt(t *testing.T) {
	r := newAsker(t)
	for i, room := range []string{"!r", "!s", "!r", "!s", "!r", "!r"} {
		event := "$" + strconv.Itoa(i+1)
		r.event(room, event, i+1, api.OK)
		r.note("@a", room, event, loud, api.OK)
		r.note("@b", room, event, yes, api.OK)
	}
	r.counts("@a", "!r", "4, 4")
	r.receipt("@a", "!r", "$4", false) // of another room
	r.receipt("@a", "!r", "$9", false) // of none
	r.receipt("@a", "", "$1", false)
	r.counts("@a", "!r", "4, 4")
	r.receipt("@a", "!r", "$3", true)
	r.counts("@a", "!r", "2, 2")
	r.receipt("@a", "!r", "$3", false) // the same again
	r.receipt("@a", "!r", "$1", false) // an older one
	r.counts("@a", "!r", "2, 2")
	r.counts("@a", "!s", "2, 2") // marks are of one room
	r.counts("@b", "!r", "4, 0") // and of one user
	r.receipt("@b", "!s", "$2", true)
	r.counts("@b", "!s", "1, 0")
	r.counts("@b", "!r", "4, 0")
	// What is taken back is a place, too.
	r.redact("!r", "$5", true)
	r.counts("@a", "!r", "1, 1")
	r.receipt("@a", "!r", "$5", true)
	r.receipt("@a", "!r", "$5", false)
	r.counts("@a", "!r", "1, 1")
	r.receipt("@a", "!r", "$6", true)
	r.counts("@a", "!r", "0, 0")
	r.rotate(6)
	r.receipt("@new", "!r", "$1", true)
	r.receipt("@new", "!r", "$1", false)
}

func TestRedact(t *testing.T) {
	r := newAsker(t)
	r.event("!r", "$1", 1, api.OK)
	r.event("!s", "$2", 2, api.OK)
	r.event("!r", "$3", 3, api.OK)
	for _, user := range []string{"@a", "@b", "@c"} {
		r.note(user, "!r", "$1", loud, api.OK)
		r.note(user, "!s", "$2", yes, api.OK)
		r.note(user, "!r", "$3", yes, api.OK)
	}
	r.redact("!s", "$1", false) // of another room
	r.redact("!r", "$9", false) // of none
	r.redact("", "$1", false)
	r.rotate(9)
	r.redact("!r", "$1", true)
	for _, user := range []string{"@a", "@b", "@c"} {
		r.counts(user, "!r", "1, 0")
		r.counts(user, "!s", "1, 0")
	}
	r.redact("!r", "$1", false) // twice
	r.rotate(6)
	// One that nobody was told of, and one that is read.
	r.event("!t", "$4", 4, api.OK)
	r.redact("!t", "$4", true)
	r.receipt("@a", "!r", "$3", true)
	r.redact("!r", "$3", true)
	r.rotate(3)
	r.event("!r", "$5", 5, api.OK)
	r.note("@a", "!r", "$5", yes, api.OK)
	r.counts("@a", "!r", "1, 0")
}

func TestLeave(t *testing.T) {
	r := newAsker(t)
	r.book.Leave("@a", "!r") // there are no events: the mark is 0
	if got := saved(r.book); got != "\x00\x00\x00" || len(r.book.rooms) > 0 {
		t.Errorf("N4: behind a Leave without events %d rooms are kept, and it is saved as %q", len(r.book.rooms), got)
	}
	r.event("!r", "$1", 1, api.OK)
	r.note("@a", "!r", "$1", loud, api.OK)
	r.counts("@a", "!r", "1, 1")
	r.event("!s", "$2", 2, api.OK)
	r.note("@a", "!s", "$2", yes, api.OK)
	r.note("@b", "!r", "$1", yes, api.OK)
	r.book.Leave("@a", "!r")
	r.counts("@a", "!r", "0, 0")
	r.counts("@a", "!s", "1, 0") // only there
	r.counts("@b", "!r", "1, 0") // only who left
	r.receipt("@a", "!r", "$1", false)
	r.note("@a", "!r", "$1", loud, api.OK)
	r.counts("@a", "!r", "0, 0")
	// The mark is the place of the last event, of whatever room; and of whom nothing was heard.
	r.book.Leave("@new", "!new")
	r.book.Leave("", "")
	want := counted(text("!r")+text("$1")+"\x00", text("!s")+text("$2")+"\x00") +
		counted("\x00\x00\x04", text("@a")+text("!r")+"\x04", text("@new")+text("!new")+"\x04") +
		counted(text("@a")+"\x04\x00", text("@b")+"\x02\x00")
	if got := saved(r.book); got != want {
		t.Errorf("N4, N7: saved as\n%q, want\n%q", got, want)
	}
	r.event("!new", "$3", 3, api.OK)
	r.note("@new", "!new", "$3", loud, api.OK)
	r.counts("@new", "!new", "1, 1")
	r.book.Leave("@new", "!new")
	r.book.Leave("@new", "!new")
	r.counts("@new", "!new", "0, 0")
	r.event("!r", "$4", 4, api.OK)
	r.note("@a", "!r", "$4", yes, api.OK)
	r.counts("@a", "!r", "1, 0")
}

// TestMarksNeverGetLess leaves at a place above that of the room's last event.
func TestMarksNeverGetLess(t *testing.T) {
	r := newAsker(t)
	for i, room := range []string{"!r", "!r", "!s"} {
		r.event(room, "$"+strconv.Itoa(i+1), i+1, api.OK)
	}
	r.book.Leave("@a", "!r")
	for _, event := range []string{"$1", "$2", "$3"} {
		r.receipt("@a", "!r", event, false)
		r.note("@a", "!r", event, loud, map[bool]api.Errno{true: api.ErrUnknown, false: api.OK}[event == "$3"])
	}
	r.counts("@a", "!r", "0, 0")
	if !strings.Contains(saved(r.book), text("@a")+text("!r")+"\x06") {
		t.Errorf("N4: the mark of who left at 3 is saved in %q", saved(r.book))
	}
}

func TestCountsUpToTheBound(t *testing.T) {
	r := newAsker(t)
	for i := 1; i <= 130; i++ {
		event := "$" + strconv.Itoa(i)
		r.event("!r", event, i, api.OK)
		a := yes
		if i > 20 {
			a = loud
		}
		r.note("@a", "!r", event, a, api.OK)
		r.counts("@a", "!r", fmt.Sprintf("%d, %d", min(i, 99), min(max(i-20, 0), 99)))
		r.rotate(i)
	}
	// Beyond the bound they are known one by one: what is left behind a receipt is told.
	for i := 1; i <= 130; i++ {
		r.receipt("@a", "!r", "$"+strconv.Itoa(i), true)
		r.counts("@a", "!r", fmt.Sprintf("%d, %d", min(130-i, 99), min(130-max(i, 20), 99)))
		r.rotate(130 - i)
	}
}

func TestCountsBehindRedactions(t *testing.T) {
	r := newAsker(t)
	for i := 1; i <= 120; i++ {
		event := "$" + strconv.Itoa(i)
		r.event("!r", event, i, api.OK)
		r.note("@a", "!r", event, loud, api.OK)
	}
	for i := 1; i <= 120; i++ {
		r.redact("!r", "$"+strconv.Itoa(i), true)
		r.counts("@a", "!r", fmt.Sprintf("%d, %d", min(120-i, 99), min(120-i, 99)))
	}
	r.rotate(0)
}

func TestNamesAreAnyTexts(t *testing.T) {
	long := strings.Repeat("x", 100000)
	texts := []string{"", "\x00", "\xff\xfe", "é", "$1", "@a", "!r", " ", long, long + "y"}
	r := newAsker(t)
	for i, name := range texts {
		r.event(texts[len(texts)-1-i], name, i+1, api.OK)
	}
	for i, name := range texts {
		room := texts[len(texts)-1-i]
		for k, user := range texts {
			r.note(user, room, name, api.Actions{Notify: true, Highlight: (i+k)%2 == 0}, api.OK)
		}
	}
	r.rotate(len(texts) * len(texts))
	for i, room := range texts {
		for k, user := range texts {
			r.counts(user, room, "1, "+strconv.Itoa((i+k)%2))
		}
	}
	r.book = loaded(t, saved(r.book))
	for i, room := range texts {
		for k, user := range texts {
			r.counts(user, room, "1, "+strconv.Itoa((i+k)%2))
			r.receipt(user, room, texts[len(texts)-1-i], true)
			r.counts(user, room, "0, 0")
		}
	}
	r.rotate(0)
}

// TestDeadNotesAreForgotten looks into the book: what can be asked for no more is not kept.
func TestDeadNotesAreForgotten(t *testing.T) {
	r := newAsker(t)
	for i := 1; i <= 9; i++ {
		event := "$" + strconv.Itoa(i)
		r.event("!r", event, i, api.OK)
		for _, user := range []string{"@a", "@b"} {
			r.note(user, "!r", event, loud, api.OK)
		}
	}
	r.receipt("@a", "!r", "$4", true)
	r.redact("!r", "$8", true)
	if n, m := len(r.book.rooms["!r"]["@a"].notes), len(r.book.rooms["!r"]["@b"].notes); n != 4 || m != 8 {
		t.Errorf("notes that are kept: %d and %d, want 4 and 8", n, m)
	}
	r.book.Leave("@a", "!r")
	if p := r.book.rooms["!r"]["@a"]; p.notes != nil {
		t.Errorf("notes that are kept behind leaving: %v", p.notes)
	}
	for i := 1; i <= 9; i++ {
		r.book.Redact("!r", "$"+strconv.Itoa(i))
	}
	if r.book.rooms["!r"]["@b"] != nil || len(r.book.rooms["!r"]) != 1 {
		t.Error("who has no mark and no notes is kept")
	}
	r.event("!s", "$10", 10, api.OK)
	r.note("@a", "!s", "$10", loud, api.OK)
	r.redact("!s", "$10", true)
	if len(r.book.rooms) != 1 {
		t.Error("a room without marks and notes is kept")
	}
	// Questions leave nothing behind.
	r.counts("@new", "!new", "0, 0")
	r.receipt("@new", "!new", "$1", false)
	r.note("@new", "!r", "$1", loud, api.OK)
	r.note("@new", "!r", "$1", api.Actions{}, api.ErrArg)
	if len(r.book.rooms) != 1 || len(r.book.rooms["!r"]) != 1 {
		t.Error("what was only asked for is kept")
	}
}
