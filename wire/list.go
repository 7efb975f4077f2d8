package wire

// WriteList writes how many there are, and each (W4).
func WriteList[T any](w *Writer, l []T, one func(w *Writer, x T)) {
	if one == nil { // no call panics (P1): nothing is written of a thing
		one = func(*Writer, T) {}
	}
	w.count(uint64(len(l)))
	for _, x := range l {
		one(w, x)
	}
}

// ReadList reads a list; more than most are wrong (W4).
func ReadList[T any](r *Reader, most int, one func(r *Reader) T) []T {
	if one == nil { // no call panics (P1): nothing is read of a thing
		one = func(*Reader) (x T) { return x }
	}
	n := r.things(most)
	room := min(n, r.left())
	var l []T
	for range n {
		x := one(r)
		if r.fault != nil {
			return nil
		}
		if len(l) == cap(l) && len(l) < room {
			l = wider(l, room)
		}
		l = append(l, x)
	}
	return l
}

// wider is l with more room behind it, for as many things as room in all at most. The room grows with what was read, not with what the count says: lists in lists may all lie.
func wider[T any](l []T, room int) []T {
	return append(make([]T, 0, min(room, 2*len(l)+8)), l...)
}
