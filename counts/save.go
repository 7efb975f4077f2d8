package counts

import (
	"cmp"
	"slices"

	"tocsin/wire"
)

// A savedMark and a savedNote are a mark and a note as they are written, each by itself.
type savedMark struct {
	user, room string
	place      int64
}

type savedNote struct {
	user      string
	place     int64
	highlight bool
}

// Save writes it (N7).
func (b *Book) Save(w *wire.Writer) {
	if w == nil { // no call panics (P1)
		return
	}
	wire.WriteList(w, b.stream, writeEntry)
	wire.WriteList(w, b.marks(), writeMark)
	wire.WriteList(w, b.notes(), writeNote)
}

// marks are all marks above 0, in the order in which they are written.
func (b *Book) marks() []savedMark {
	var all []savedMark
	for room, users := range b.rooms {
		for user, p := range users {
			if p.mark > 0 {
				all = append(all, savedMark{user, room, int64(p.mark)})
			}
		}
	}
	slices.SortFunc(all, compareMarks)
	return all
}

// notes are all live notes, in the order in which they are written.
func (b *Book) notes() []savedNote {
	var all []savedNote
	for _, users := range b.rooms {
		for user, p := range users {
			for place, n := range p.notes {
				all = append(all, savedNote{user, int64(place), n.highlight})
			}
		}
	}
	slices.SortFunc(all, compareNotes)
	return all
}

func compareMarks(a, b savedMark) int {
	return cmp.Or(cmp.Compare(a.user, b.user), cmp.Compare(a.room, b.room))
}

func compareNotes(a, b savedNote) int {
	return cmp.Or(cmp.Compare(a.user, b.user), cmp.Compare(a.place, b.place))
}

func writeEntry(w *wire.Writer, e entry) {
	w.Text(e.room)
	w.Text(e.event)
	w.Flag(e.takenBack)
}

func writeMark(w *wire.Writer, m savedMark) {
	w.Text(m.user)
	w.Text(m.room)
	w.Int(m.place)
}

func writeNote(w *wire.Writer, n savedNote) {
	w.Text(n.user)
	w.Int(n.place)
	w.Flag(n.highlight)
}
