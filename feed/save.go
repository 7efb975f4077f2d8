package feed

import (
	"cmp"
	"maps"
	"slices"

	"tocsin/api"
	"tocsin/wire"
)

// maxSaved is how many users, and how many counts of a sheet, Load reads at most.
const maxSaved = 1000000

// A row is a shelf, and whose it is.
type row struct {
	user string
	*shelf
}

// byUser is the order in which shelves are written.
func byUser(a, b row) int { return cmp.Compare(a.user, b.user) }

// Save writes it (Z5).
func (h *Hub) Save(w *wire.Writer) {
	if w == nil { // no call panics (P1)
		return
	}
	var rows []row
	for _, user := range slices.Sorted(maps.Keys(h.shelves)) {
		rows = append(rows, row{user, h.shelves[user]})
	}
	wire.WriteList(w, rows, writeRow)
}

// Load reads what Save wrote (Z5).
func Load(r *wire.Reader) (*Hub, api.Errno) {
	if r == nil { // no call panics (P1)
		return nil, api.ErrWire
	}
	rows := wire.ReadList(r, maxSaved, readRow)
	if r.Err() != nil || !rising(rows, byUser) {
		return nil, api.ErrWire
	}
	h := New()
	for _, x := range rows {
		if !x.shelf.mayBe() {
			return nil, api.ErrWire
		}
		h.shelves[x.user] = x.shelf
	}
	return h, api.OK
}

func writeRow(w *wire.Writer, x row) {
	w.Text(x.user)
	w.Int(x.number)
	wire.WriteList(w, x.sheets, writeSheet)
}

func readRow(r *wire.Reader) row {
	x := row{r.Text(), newShelf()}
	x.number = r.Int()
	x.sheets = wire.ReadList(r, api.MaxHistory+1, readSheet)
	return x
}

func writeSheet(w *wire.Writer, s sheet) { wire.WriteList(w, s, writeCount) }

func readSheet(r *wire.Reader) sheet { return wire.ReadList(r, maxSaved, readCount) }

func writeCount(w *wire.Writer, c api.Count) {
	w.Text(c.Room)
	w.Int(int64(c.Unread))
	w.Int(int64(c.Highlight))
}

func readCount(r *wire.Reader) api.Count {
	var c api.Count
	c.Room = r.Text()
	c.Unread = int(r.Int())
	c.Highlight = int(r.Int())
	return c
}

// mayBe tells whether the Puts of a user can have left this.
func (s *shelf) mayBe() bool {
	if s.number < 1 || s.number > api.MaxInt || int64(len(s.sheets)) != s.number-s.oldest()+1 {
		return false
	}
	if s.oldest() == 0 && len(s.sheets[0]) > 0 { // the sheet 0
		return false
	}
	for i, x := range s.sheets {
		if !rising(x, byRoom) || i > 0 && slices.Equal(x, s.sheets[i-1]) {
			return false
		}
	}
	return true
}
