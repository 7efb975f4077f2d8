package wire

import "tocsin/api"

const (
	group   = 7          // bits of a count in a byte
	more    = 1 << group // the bit of a byte that says that the count goes on
	longest = 10         // bytes of a count
)

// Reader reads; behind an error all is nought.
type Reader struct {
	bytes []byte
	at    int
	fault *api.Fault
}

// NewReader reads bytes (W3).
func NewReader(b []byte) *Reader { return &Reader{bytes: append([]byte(nil), b...)} }

// Int reads a number (W3).
func (r *Reader) Int() int64 {
	n := r.count()
	return int64(n>>1) ^ -int64(n&1)
}

// Flag reads a truth (W3).
func (r *Reader) Flag() bool {
	switch {
	case r.fault != nil:
	case r.left() == 0 || r.bytes[r.at] > 1:
		r.fail(r.at)
	default:
		r.at++
		return r.bytes[r.at-1] == 1
	}
	return false
}

// Text reads a text (W3).
func (r *Reader) Text() string {
	n := r.count()
	if n > uint64(r.left()) {
		r.fail(r.at)
		return ""
	}
	from := r.at
	r.at += int(n)
	return string(r.bytes[from:r.at])
}

// End tells whether all was read, and nothing was wrong (W3).
func (r *Reader) End() bool { return r.fault == nil && r.left() == 0 }

// Err gives what was wrong first: an *api.Fault, or nil (W3).
func (r *Reader) Err() error {
	if r.fault == nil {
		return nil
	}
	// Who is told may write into it: the fault stays what it was.
	told := *r.fault
	return &told
}

// left is how many bytes are not read yet.
func (r *Reader) left() int { return len(r.bytes) - r.at }

// fail keeps a fault, if it is the first.
func (r *Reader) fail(at int) {
	if r.fault == nil {
		r.fault = &api.Fault{At: at, Err: api.ErrWire}
	}
}

// count is 0 if there is a fault, as of a thing of nothing: who asked for it goes on with that.
func (r *Reader) count() uint64 {
	if r.fault != nil {
		return 0
	}
	var n uint64
	for i, b := range r.bytes[r.at:] {
		last := b < more
		if i == longest-1 && b > 1 || last && b == 0 && i > 0 {
			r.fail(r.at + i)
			return 0
		}
		n |= uint64(b%more) << (group * i)
		if last {
			r.at += i + 1
			return n
		}
	}
	r.fail(len(r.bytes))
	return 0
}

// things is the count of a list, which may have most of them.
func (r *Reader) things(most int) int {
	from := r.at
	n := r.count()
	if most < 0 || n > uint64(most) {
		r.fail(from)
		return 0
	}
	return int(n)
}
