package glob

// A track goes through a text sign by sign and keeps all the ways in which what was passed may be cut at once: so no sign is ever passed twice.
type track struct {
	parts []part
	// reached tells of each number of parts whether the first so many mean the text from some place where it was begun up to here.
	reached []bool
}

func newTrack(parts []part) *track {
	return &track{parts: parts, reached: make([]bool, len(parts)+1)}
}

// begin says that what is meant may begin here.
func (t *track) begin() {
	t.reached[0] = true
	t.spread()
}

// spread goes on over the parts that may be no sign.
func (t *track) spread() {
	for n, p := range t.parts {
		if p.kind == isAny && t.reached[n] {
			t.reached[n+1] = true
		}
	}
}

// pass goes over a sign, from the last part on, as each asks what was reached ahead of the sign.
func (t *track) pass(r rune) {
	for n := len(t.parts) - 1; n >= 0; n-- {
		switch p := t.parts[n]; p.kind {
		case isAny:
			// An ANY that was gone through takes this sign, too; one that was come to has been gone through by spread.
		case isOne:
			t.reached[n+1] = t.reached[n]
		default:
			t.reached[n+1] = t.reached[n] && r == p.sign
		}
	}
	t.reached[0] = false
	t.spread()
}

// meant tells whether all parts mean what was passed.
func (t *track) meant() bool {
	return t.reached[len(t.parts)]
}
