package counts

import (
	"tocsin/api"
	"tocsin/wire"
)

// maxSaved is how many marks, and how many notes, Load reads at most.
const maxSaved = 1000000

// Load reads what Save wrote (N7).
func Load(r *wire.Reader) (*Book, api.Errno) {
	if r == nil { // no call panics (P1)
		return nil, api.ErrWire
	}
	stream := wire.ReadList(r, api.MaxEvents, readEntry)
	marks := wire.ReadList(r, maxSaved, readMark)
	notes := wire.ReadList(r, maxSaved, readNote)
	if r.Err() != nil {
		return nil, api.ErrWire
	}
	b := New()
	// Which marks may be hangs on the stream, which notes are live on both.
	if !b.takeStream(stream) || !b.takeMarks(marks) || !b.takeNotes(notes) {
		return nil, api.ErrWire
	}
	return b, api.OK
}

func readEntry(r *wire.Reader) entry {
	var e entry
	e.room = r.Text()
	e.event = r.Text()
	e.takenBack = r.Flag()
	return e
}

func readMark(r *wire.Reader) savedMark {
	var m savedMark
	m.user = r.Text()
	m.room = r.Text()
	m.place = r.Int()
	return m
}

func readNote(r *wire.Reader) savedNote {
	var n savedNote
	n.user = r.Text()
	n.place = r.Int()
	n.highlight = r.Flag()
	return n
}

// takeStream takes events in; false, if a name stands there twice.
func (b *Book) takeStream(stream []entry) bool {
	for i, e := range stream {
		if b.places[e.event] > 0 {
			return false
		}
		b.places[e.event] = i + 1
	}
	b.stream = stream
	return true
}

// takeMarks takes marks in; false, if there is one that Save would not write there.
func (b *Book) takeMarks(marks []savedMark) bool {
	if !rising(marks, compareMarks) {
		return false
	}
	for _, m := range marks {
		if !b.isPlace(m.place) {
			return false
		}
		b.page(m.user, m.room).mark = int(m.place)
	}
	return true
}

// takeNotes takes notes in; false, if there is one that Save would not write there.
func (b *Book) takeNotes(notes []savedNote) bool {
	if !rising(notes, compareNotes) {
		return false
	}
	for _, n := range notes {
		if !b.isPlace(n.place) || !b.mayLive(n.user, int(n.place)) {
			return false
		}
		b.page(n.user, b.stream[n.place-1].room).put(int(n.place), note{n.highlight})
	}
	return true
}

func (b *Book) isPlace(n int64) bool { return 1 <= n && n <= int64(len(b.stream)) }

// rising tells whether each stands behind the one ahead of it, and none beside its like.
func rising[T any](list []T, compare func(a, b T) int) bool {
	for i := 1; i < len(list); i++ {
		if compare(list[i-1], list[i]) >= 0 {
			return false
		}
	}
	return true
}
