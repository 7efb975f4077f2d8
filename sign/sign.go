// Package sign: texts sign by sign: see shared/doc/01-sign.md.
package sign

import (
	"iter"
	"strings"
	"unicode/utf8"
)

// Valid tells whether a text is UTF-8 (S1).
func Valid(s string) bool {
	for at, r := range s {
		if wrong(s, at, r) {
			return false
		}
	}
	return true
}

// wrong tells whether r, which range gave at a place, stands for a byte that belongs to no sign.
// Range gives U+FFFD of such a byte, and of that sign written out, too: only the bytes tell them apart.
func wrong(s string, at int, r rune) bool {
	return r == utf8.RuneError && !strings.HasPrefix(s[at:], "\uFFFD")
}

// Fold writes a text in small letters (S2).
func Fold(s string) string {
	var out strings.Builder
	out.Grow(len(s))
	for at, r := range s {
		if wrong(s, at, r) {
			out.WriteByte(s[at])
		} else {
			out.WriteRune(small(r))
		}
	}
	return out.String()
}

// A letterRow is signs from first to last, each step-th of them, whose small ones are plus further on.
type letterRow struct {
	first, last, step, plus rune
}

// They rise, so that who seeks a sign may stop early.
var letterRows = [...]letterRow{
	{'A', 'Z', 1, 32},
	{0x00C0, 0x00D6, 1, 32},
	{0x00D8, 0x00DE, 1, 32},
	{0x0100, 0x012E, 2, 1},
	{0x0132, 0x0136, 2, 1},
	{0x0139, 0x0147, 2, 1},
	{0x014A, 0x0176, 2, 1},
	{0x0178, 0x0178, 1, 0x00FF - 0x0178},
	{0x0179, 0x017D, 2, 1},
	{0x0386, 0x0386, 1, 0x03AC - 0x0386},
	{0x0388, 0x038A, 1, 37},
	{0x038C, 0x038C, 1, 0x03CC - 0x038C},
	{0x038E, 0x038F, 1, 63},
	{0x0391, 0x03A1, 1, 32},
	{0x03A3, 0x03AB, 1, 32},
	{0x03C2, 0x03C2, 1, 0x03C3 - 0x03C2},
	{0x0400, 0x040F, 1, 80},
	{0x0410, 0x042F, 1, 32},
	{0xFF21, 0xFF3A, 1, 32},
}

// small gives the small one of a sign.
func small(r rune) rune {
	for _, row := range letterRows {
		if r < row.first {
			return r
		}
		if r <= row.last && (r-row.first)%row.step == 0 {
			return r + row.plus
		}
	}
	return r
}

// IsWord tells whether a sign may stand in a word (S3).
func IsWord(r rune) bool {
	switch {
	case r < 0x00C0:
		return between(r, '0', '9') || between(r, 'A', 'Z') || between(r, 'a', 'z') || r == '_'
	case r == 0x00D7, r == 0x00F7, r == 0xFFFD:
		return false
	case between(r, 0x2000, 0x206F), between(r, 0x3000, 0x303F), between(r, 0xD800, 0xDFFF), between(r, 0xFF00, 0xFF0F):
		return false
	}
	return r <= utf8.MaxRune
}

func between(r, first, last rune) bool {
	return first <= r && r <= last
}

// Edge tells whether a place of a text is not within a word (S4).
func Edge(s string, at int) bool {
	if at < 0 || at > len(s) || within(s, at) {
		return false
	}
	if at == 0 || at == len(s) {
		return true
	}
	// A wrong byte is decoded as U+FFFD, which is no word's sign either.
	before, _ := utf8.DecodeLastRuneInString(s[:at])
	behind, _ := utf8.DecodeRuneInString(s[at:])
	return !IsWord(before) || !IsWord(behind)
}

// within tells whether a place of a text, from 0 to its length, is within a sign.
// That sign would begin at most three bytes ahead; and where one can be read, one begins, for its first byte is never the second, third or fourth of another.
func within(s string, at int) bool {
	for from := max(0, at-utf8.UTFMax+1); from < at; from++ {
		if _, size := utf8.DecodeRuneInString(s[from:]); from+size > at {
			return true
		}
	}
	return false
}

// Words gives the words of a text, by their places, from and to (S5).
func Words(s string) iter.Seq2[int, int] {
	return func(yield func(int, int) bool) {
		from := -1 // where the word begins that is being gone through; none: -1
		for at, r := range s {
			word := IsWord(r)
			if word && from < 0 {
				from = at
			}
			if !word && from >= 0 {
				if !yield(from, at) {
					return
				}
				from = -1
			}
		}
		if from >= 0 {
			yield(from, len(s))
		}
	}
}

// Has tells whether a part stands in a text, whatever the letters' size, between edges (S6).
func Has(text string, part string) bool {
	if part == "" {
		return false
	}
	sought := Fold(part)
	shorter := borders(sought)
	folded := Fold(text)
	have := 0 // how many of the bytes up to here, at most, are the first of what is sought
	for at := range len(folded) {
		have = extend(sought, shorter, have, folded[at])
		if have == len(sought) && Edge(text, at+1-have) && Edge(text, at+1) {
			return true
		}
	}
	return false
}

// borders gives, of each front of a text (by its length less one), the length of the longest shorter front with which it ends.
// By these Has goes through a text once, whatever repeats itself there; trying each place takes as many times as the part is long.
func borders(s string) []int {
	out := make([]int, len(s))
	for n := 1; n < len(s); n++ {
		out[n] = extend(s, out, out[n-1], s[n])
	}
	return out
}

// extend gives the length of the longest front of s with which a row of bytes ends that ended with have bytes of such a front ahead of c.
func extend(s string, shorter []int, have int, c byte) int {
	for have > 0 && (have == len(s) || s[have] != c) {
		have = shorter[have-1]
	}
	if s[have] == c {
		have++
	}
	return have
}
