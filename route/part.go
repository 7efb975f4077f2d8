package route

import (
	"strconv"

	"tocsin/api"
	"tocsin/jsonval"
)

// A part of a path: how a segment is read as a member of a command, and written.
type part struct {
	member string                                // "": the segment is a word that tells the way, and no member
	read   func(segment string) *jsonval.Value   // nil: no such segment
	write  func(v *jsonval.Value) (string, bool) // false: Command makes no such value
}

// word is a part that is just this segment.
func word(w string) part {
	read := func(segment string) *jsonval.Value {
		if segment != w {
			return nil
		}
		return jsonval.OfText(w)
	}
	return part{read: read, write: func(*jsonval.Value) (string, bool) { return w, true }}
}

// text is a part that may be any segment.
func text(member string) part { return part{member: member, read: jsonval.OfText, write: writeText} }

// number is a part that is a number, in digits.
func number(member string) part { return part{member: member, read: readNumber, write: writeNumber} }

func writeText(v *jsonval.Value) (string, bool) { return v.Text(), v.Kind() == jsonval.Text }

func readNumber(segment string) *jsonval.Value {
	n, err := strconv.ParseInt(segment, 10, 64)
	if err != nil || n < 0 || n > api.MaxInt || strconv.FormatInt(n, 10) != segment {
		return nil
	}
	return jsonval.OfInt(n)
}

func writeNumber(v *jsonval.Value) (string, bool) {
	return strconv.FormatInt(v.Number(), 10), v.Kind() == jsonval.Int && v.Number() >= 0
}
