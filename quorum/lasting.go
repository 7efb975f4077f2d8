package quorum

import (
	"slices"

	"tocsin/api"
	"tocsin/wire"
)

// nobody stands where no node is meant.
const nobody = -1

// The first number of a record says what it is of.
const (
	ofBallot = 1 // of term and vote
	ofEntry  = 2
)

// An entry is one of a log. Its data are a text, which nobody can write into.
type entry struct {
	term int
	data string
}

// lasting is what a node has that lasts. It is never written into: a change makes another one, which is left alone if it cannot be kept.
type lasting struct {
	term int
	vote int
	log  []entry
}

func (l lasting) last() int { return len(l.log) }

// termAt is the term at a place up to the last one.
func (l lasting) termAt(place int) int {
	if place == 0 {
		return 0
	}
	return l.log[place-1].term
}

// holds tells whether an entry of a term stands at a place.
func (l lasting) holds(place, term int) bool { return place <= l.last() && l.termAt(place) == term }

func (l lasting) withBallot(term, vote int) lasting {
	l.term, l.vote = term, vote
	return l
}

// withEntry ends the log behind the entry, which stands at a place up to the last one and one.
func (l lasting) withEntry(place int, e entry) lasting {
	l.log = append(l.log[:place-1:place-1], e)
	return l
}

func ballotRecord(term, vote int) []byte {
	w := wire.NewWriter()
	w.Int(ofBallot)
	w.Int(int64(term))
	w.Int(int64(vote))
	return w.Bytes()
}

func entryRecord(place int, e entry) []byte {
	w := wire.NewWriter()
	w.Int(ofEntry)
	w.Int(int64(place))
	writeEntry(w, e)
	return w.Bytes()
}

func (l lasting) snapshot() []byte {
	w := wire.NewWriter()
	w.Int(int64(l.term))
	w.Int(int64(l.vote))
	wire.WriteList(w, l.log, writeEntry)
	return w.Bytes()
}

func writeEntry(w *wire.Writer, e entry) {
	w.Int(int64(e.term))
	w.Text(e.data)
}

func readEntry(r *wire.Reader) entry {
	var e entry
	e.term = int(r.Int())
	e.data = r.Text()
	return e
}

// found is what a journal says; false, if no node writes that.
func found(snapshot []byte, records [][]byte) (lasting, bool) {
	l, ok := readSnapshot(snapshot)
	for _, record := range records {
		if !ok {
			break
		}
		l, ok = l.behind(record)
	}
	return l, ok
}

func readSnapshot(snapshot []byte) (lasting, bool) {
	if len(snapshot) == 0 { // nothing was kept yet
		return lasting{vote: nobody}, true
	}
	var l lasting
	r := wire.NewReader(snapshot)
	l.term = int(r.Int())
	l.vote = int(r.Int())
	l.log = wire.ReadList(r, api.MaxEntries, readEntry)
	refused := func(e entry) bool { return !l.mayHave(e) }
	return l, r.End() && isBallot(l.term, l.vote) && !slices.ContainsFunc(l.log, refused)
}

// behind is what lasts behind a record; false, if no node writes that.
func (l lasting) behind(record []byte) (lasting, bool) {
	r := wire.NewReader(record)
	switch r.Int() {
	case ofBallot:
		term := int(r.Int())
		vote := int(r.Int())
		return l.withBallot(term, vote), r.End() && isBallot(term, vote)
	case ofEntry:
		place := int(r.Int())
		e := readEntry(r)
		if !r.End() || !within(place, 1, min(l.last()+1, api.MaxEntries)) || !l.mayHave(e) {
			return l, false
		}
		return l.withEntry(place, e), true
	}
	return l, false
}

func isBallot(term, vote int) bool {
	return within(term, 0, api.MaxTime) && within(vote, nobody, api.Houses-1)
}

// mayHave tells whether an entry may stand in this log.
func (l lasting) mayHave(e entry) bool {
	return within(e.term, 1, l.term) && len(e.data) <= api.MaxJSON
}

// given is entries as they are handed out: nobody else has their memory.
func given(log []entry) []api.Entry {
	var list []api.Entry
	for _, e := range log {
		list = append(list, api.Entry{Term: e.term, Data: append([]byte(nil), e.data...)})
	}
	return list
}
