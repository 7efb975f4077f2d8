package counts

import (
	"fmt"
	"math/rand"
	"strings"
	"sync"
	"testing"

	"tocsin/api"
	"tocsin/wire"
)

// A pair is a book and its model, of which the same is asked.
type pair struct {
	testing.TB
	book  *Book
	model *model
	said  []string // what was called, for who reads of a fault
}

func newPair(t testing.TB) *pair { return &pair{TB: t, book: New(), model: &model{}} }

// hold wants that both have answered the same.
func (p *pair) hold(promise, what string, got, want any) {
	p.Helper()
	p.said = append(p.said, what)
	if got != want {
		p.Fatalf("%s: %s: %v, want %v", promise, strings.Join(p.said, "; "), got, want)
	}
}

func (p *pair) event(room, event string) {
	p.Helper()
	n, errno := p.book.Event(room, event)
	wantN, wantErrno := p.model.addEvent(room, event)
	p.hold("N2", fmt.Sprintf("Event(%q, %q)", room, event), fmt.Sprint(n, int(errno)), fmt.Sprint(wantN, int(wantErrno)))
}

func (p *pair) note(user, room, event string, a api.Actions) {
	p.Helper()
	got, want := p.book.Note(user, room, event, a), p.model.addNote(user, room, event, a)
	p.hold("N2", fmt.Sprintf("Note(%q, %q, %q, %v)", user, room, event, a), int(got), int(want))
}

func (p *pair) receipt(user, room, event string) {
	p.Helper()
	got, want := p.book.Receipt(user, room, event), p.model.addReceipt(user, room, event)
	p.hold("N3", fmt.Sprintf("Receipt(%q, %q, %q)", user, room, event), got, want)
}

func (p *pair) redact(room, event string) {
	p.Helper()
	got, want := p.book.Redact(room, event), p.model.addRedact(room, event)
	p.hold("N4", fmt.Sprintf("Redact(%q, %q)", room, event), got, want)
}

func (p *pair) leave(user, room string) {
	p.Helper()
	p.book.Leave(user, room)
	p.model.addLeave(user, room)
	p.hold("N4", fmt.Sprintf("Leave(%q, %q)", user, room), 0, 0)
}

func (p *pair) counts(user, room string) {
	p.Helper()
	n, h := p.book.Counts(user, room)
	wantN, wantH := p.model.counts(user, room)
	p.hold("N5, N8", fmt.Sprintf("Counts(%q, %q)", user, room), [2]int{n, h}, [2]int{wantN, wantH})
	p.said = p.said[:len(p.said)-1]
}

func (p *pair) rotate() {
	p.Helper()
	p.hold("N6", "Rotate", p.book.Rotate(), p.model.rotate())
}

func (p *pair) save() {
	p.Helper()
	p.hold("N7", "Save", fmt.Sprintf("%q", saved(p.book)), fmt.Sprintf("%q", p.model.save()))
}

// reload goes on with the book that was saved and loaded.
func (p *pair) reload() {
	p.Helper()
	p.save()
	b, errno := Load(wire.NewReader([]byte(saved(p.book))))
	p.hold("N7", "Load", int(errno), 0)
	p.book = b
}

// names are texts from which users, rooms and events are taken: some are each other's beginnings, or stand in more than one part.
type names struct {
	users, rooms, events []string
}

func strangeNames() names {
	return names{
		[]string{"", "@a", "@ab", "@b", "\x00", "\xff", "!r"},
		[]string{"", "!r", "!rr", "\xfe\x00", "@a"},
		[]string{"", "$1", "$2", "$11", "!r", "\x00", "\x00\x00", "\x80", "é", "$3", "$4", "$5", "$6", "$7", "$8"},
	}
}

// all asks all counts.
func (p *pair) all(n names) {
	p.Helper()
	for _, user := range n.users {
		for _, room := range n.rooms {
			p.counts(user, room)
		}
	}
}

// one of a list, by chance.
func one(rnd *rand.Rand, list []string) string { return list[rnd.Intn(len(list))] }

// roomOf is mostly the room of an event of the stream.
func (p *pair) roomOf(rnd *rand.Rand, n names, event string) string {
	for _, e := range p.model.events() {
		if e.event == event && rnd.Intn(8) > 0 {
			return e.room
		}
	}
	return one(rnd, n.rooms)
}

// step calls something by chance; quiet leaves out what changes no answer.
func (p *pair) step(rnd *rand.Rand, n names, quiet bool) {
	p.Helper()
	user, event := one(rnd, n.users), one(rnd, n.events)
	room := p.roomOf(rnd, n, event)
	what := rnd.Intn(24)
	switch {
	case what < 4:
		p.event(one(rnd, n.rooms), event)
	case what < 14:
		p.note(user, room, event, api.Actions{Notify: rnd.Intn(9) > 0, Highlight: rnd.Intn(2) == 0, Sound: one(rnd, n.users)})
	case what < 17:
		p.receipt(user, room, event)
	case what < 19:
		p.redact(room, event)
	case what < 20:
		p.leave(user, room)
	case quiet:
	case what < 22:
		p.rotate()
	default:
		p.reload()
	}
}

func TestRowsByChance(t *testing.T) {
	t.Parallel()
	rnd := rand.New(rand.NewSource(11))
	n := strangeNames()
	for row := range 400 {
		p := newPair(t)
		for range 20 + rnd.Intn(60) {
			p.step(rnd, n, row%4 == 0)
			p.counts(one(rnd, n.users), one(rnd, n.rooms))
			if rnd.Intn(8) == 0 {
				p.all(n)
			}
		}
		p.all(n)
		p.rotate()
		p.save()
		p.all(n)
	}
}

// TestAllShortRows calls all rows of so many calls: whatever comes in whichever order, the answers are those of the plain reckoning.
func TestAllShortRows(t *testing.T) {
	t.Parallel()
	yes, loud := api.Actions{Notify: true}, api.Actions{Notify: true, Highlight: true}
	calls := []func(p *pair){
		func(p *pair) { p.event("!r", "$1") },
		func(p *pair) { p.event("!r", "$2") },
		func(p *pair) { p.note("@a", "!r", "$1", yes) },
		func(p *pair) { p.note("@a", "!r", "$1", loud) },
		func(p *pair) { p.note("@a", "!r", "$2", loud) },
		func(p *pair) { p.receipt("@a", "!r", "$1") },
		func(p *pair) { p.receipt("@a", "!r", "$2") },
		func(p *pair) { p.redact("!r", "$1") },
		func(p *pair) { p.leave("@a", "!r") },
		func(p *pair) { p.rotate() },
		func(p *pair) { p.reload() },
	}
	front := []func(p *pair){calls[0], calls[1], calls[3]}
	n := names{users: []string{"@a", "@b"}, rooms: []string{"!r", "!s"}}
	const length = 4
	rows := 1
	for range length {
		rows *= len(calls)
	}
	for row := range rows {
		for _, ahead := range [][]func(p *pair){nil, front} {
			p := newPair(t)
			for _, f := range ahead {
				f(p)
			}
			left := row
			for range length {
				calls[left%len(calls)](p)
				left /= len(calls)
			}
			p.all(n)
			p.rotate()
			p.save()
		}
	}
}

// TestNothingIsSeenOfRotations holds a book that is rotated, saved and loaded against one that never is.
func TestNothingIsSeenOfRotations(t *testing.T) {
	t.Parallel()
	n := strangeNames()
	for seed := range int64(100) {
		rnd := rand.New(rand.NewSource(seed))
		bare, turned := New(), New()
		tell := func(b *Book, choice [5]int) string {
			user, room, event := n.users[choice[0]], n.rooms[choice[1]], n.events[choice[2]]
			a := api.Actions{Notify: choice[3] > 0, Highlight: choice[3] > 2}
			switch choice[4] {
			case 0, 1:
				at, errno := b.Event(room, event)
				return fmt.Sprint(at, int(errno))
			case 2:
				return fmt.Sprint(b.Receipt(user, room, event))
			case 3:
				return fmt.Sprint(b.Redact(room, event))
			case 4:
				b.Leave(user, room)
			}
			return fmt.Sprint(int(b.Note(user, room, event, a)))
		}
		for step := range 80 {
			choice := [5]int{rnd.Intn(len(n.users)), rnd.Intn(2), rnd.Intn(len(n.events)), rnd.Intn(5), rnd.Intn(12)}
			got, want := tell(turned, choice), tell(bare, choice)
			for _, user := range n.users {
				for _, room := range n.rooms {
					got += counts(turned, user, room)
					want += counts(bare, user, room)
				}
			}
			if got != want || saved(turned) != saved(bare) {
				t.Fatalf("N6, N7: step %d of row %d: a book that was rotated, saved and loaded tells %s, one that was not %s", step, seed, got, want)
			}
			switch step % 3 {
			case 0:
				turned.Rotate()
			case 1:
				turned = loaded(t, saved(turned))
			}
		}
	}
}

func TestByTurns(t *testing.T) {
	t.Parallel()
	rnd := rand.New(rand.NewSource(5))
	n := strangeNames()
	pairs := []*pair{newPair(t), newPair(t), newPair(t), newPair(t)}
	for range 250 {
		p := pairs[rnd.Intn(len(pairs))]
		p.step(rnd, n, false)
		p.all(n)
	}
	for _, p := range pairs {
		p.all(n)
		p.save()
		p.rotate()
	}
}

func TestManyAtOnce(t *testing.T) {
	t.Parallel()
	n := strangeNames()
	bytes := saved(filled(t))
	var wait sync.WaitGroup
	for g := range 6 {
		wait.Go(func() {
			rnd := rand.New(rand.NewSource(int64(g)))
			p := newPair(failing{t})
			for range 80 {
				p.step(rnd, n, false)
				if b, errno := Load(wire.NewReader([]byte(bytes))); errno != api.OK || saved(b) != bytes {
					t.Errorf("P4: Load beside others: %d", errno)
				}
			}
		})
	}
	wait.Wait()
}

// failing is a test of which goroutines tell that it has failed: only its own may end it.
type failing struct{ testing.TB }

func (f failing) Fatalf(format string, a ...any) { f.Errorf(format, a...) }

// spoilt is a text in which a few bytes are others, are gone, or have come in.
func spoilt(rnd *rand.Rand, text string) string {
	b := []byte(text)
	for range 1 + rnd.Intn(2) {
		i := rnd.Intn(len(b))
		x := []byte{0, 1, 2, 4, 6, 0x80, '!', b[rnd.Intn(len(b))], byte(rnd.Intn(256))}[rnd.Intn(9)]
		switch rnd.Intn(6) {
		case 0:
			b = append(b[:i:i], b[i+1:]...)
		case 1:
			b = append(b[:i:i], append([]byte{x}, b[i:]...)...)
		default:
			b[i] = x
		}
		if len(b) == 0 {
			break
		}
	}
	return string(b)
}

// heldLoad loads by both; whether they took it.
func heldLoad(t *testing.T, bytes string, n names) bool {
	t.Helper()
	b, errno := Load(wire.NewReader([]byte(bytes)))
	m := modelLoad(bytes)
	if m == nil {
		if b != nil || errno != api.ErrWire {
			t.Fatalf("N7, P2: Load(%q): %v, %d; want nil, ErrWire", bytes, b != nil, errno)
		}
		return false
	}
	if b == nil || errno != api.OK || saved(b) != m.save() {
		t.Fatalf("N7: Load(%q): %v, %d; want a book that is saved so", bytes, b != nil, errno)
	}
	p := &pair{TB: t, book: b, model: m}
	p.all(n)
	p.rotate()
	return true
}

func TestSpoiltBytesHeld(t *testing.T) {
	t.Parallel()
	rnd := rand.New(rand.NewSource(7))
	n := strangeNames()
	taken, refused := 0, 0
	for range 150 {
		p := newPair(t)
		for range 5 + rnd.Intn(30) {
			p.step(rnd, n, true)
		}
		bytes := saved(p.book)
		if !heldLoad(t, bytes, n) {
			t.Fatalf("N7: what was saved is refused: %q", bytes)
		}
		for range 60 {
			if heldLoad(t, spoilt(rnd, bytes), n) {
				taken++
			} else {
				refused++
			}
		}
	}
	if taken < 500 || refused < 500 {
		t.Errorf("of the spoilt bytes %d were taken and %d refused: too few", taken, refused)
	}
}

// TestSmallSheetsHeld loads all sheets of two events, and of up to two marks and two notes from a few.
func TestSmallSheetsHeld(t *testing.T) {
	t.Parallel()
	var streams, marks, notes []string
	for _, second := range []string{"$2", "$1"} {
		for back := range 4 {
			streams = append(streams, counted(text("!r")+text("$1")+truth(back&1 > 0), text("!s")+text(second)+truth(back&2 > 0)))
		}
	}
	var mark, note []string
	for _, user := range []string{"", "a", "ab"} {
		for _, at := range []int64{-1, 0, 1, 2, 3} {
			mark = append(mark, text(user)+text("!r")+number(at), text(user)+text("!s")+number(at))
			note = append(note, text(user)+number(at)+truth(true), text(user)+number(at)+truth(false))
		}
	}
	n := names{users: []string{"", "a", "ab"}, rooms: []string{"!r", "!s", "!"}}
	marks, notes = upToTwo(mark), upToTwo(note)
	for _, stream := range streams {
		for _, m := range marks {
			heldLoad(t, stream+m+"\x00", n)
		}
		for _, s := range notes {
			heldLoad(t, stream+"\x00"+s, n)
		}
		for _, m := range mark {
			for _, s := range note {
				heldLoad(t, stream+counted(m)+counted(s), n)
			}
		}
	}
}

// upToTwo are all lists of up to two of these.
func upToTwo(one []string) []string {
	all := []string{counted()}
	for _, a := range one {
		all = append(all, counted(a))
		for _, b := range one {
			all = append(all, counted(a, b))
		}
	}
	return all
}
