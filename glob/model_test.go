package glob

import (
	"iter"
	"strings"

	"tocsin/sign"
)

// The model that the calls are held against: it does what the chapter's words say, by trying all ways, one by one.

// A modelPart is a part of a pattern as it is written: "*", "?", or a fixed sign in small letters behind a "=".
type modelPart string

const (
	modelAny modelPart = "*"
	modelOne modelPart = "?"
)

func (p modelPart) fixed() (string, bool) {
	return strings.CutPrefix(string(p), "=")
}

// modelRead cuts a pattern into its parts, as they are written; false: it may not be.
func modelRead(pattern string) ([]modelPart, bool) {
	if len(pattern) > 100 || !sign.Valid(pattern) {
		return nil, false
	}
	signs := strings.Split(pattern, "")
	var out []modelPart
	for len(signs) > 0 {
		first := signs[0]
		size, p := 1, modelPart("="+sign.Fold(first))
		switch first {
		case "*", "?":
			p = modelPart(first)
		case "\\":
			if len(signs) < 2 || !strings.Contains("*?\\", signs[1]) {
				return nil, false
			}
			size, p = 2, modelPart("="+signs[1])
		}
		out = append(out, p)
		signs = signs[size:]
	}
	return out, true
}

// modelMeans tries all ways to cut signs in small letters into pieces, one for each part.
func modelMeans(parts []modelPart, signs []string) bool {
	if len(parts) == 0 {
		return len(signs) == 0
	}
	for n := range len(signs) + 1 {
		if modelPiece(parts[0], signs[:n]) && modelMeans(parts[1:], signs[n:]) {
			return true
		}
	}
	return false
}

func modelPiece(p modelPart, signs []string) bool {
	if s, ok := p.fixed(); ok {
		return len(signs) == 1 && signs[0] == s
	}
	return p == modelAny || len(signs) == 1
}

func modelWhole(parts []modelPart, text string) bool {
	return sign.Valid(text) && modelMeans(parts, strings.Split(sign.Fold(text), ""))
}

// modelWithin tries all pairs of edges.
func modelWithin(parts []modelPart, text string) bool {
	if !sign.Valid(text) {
		return false
	}
	for a := range len(text) + 1 {
		for b := a; b <= len(text); b++ {
			if sign.Edge(text, a) && sign.Edge(text, b) && modelWhole(parts, text[a:b]) {
				return true
			}
		}
	}
	return false
}

// modelFront gives the fixed signs ahead of the first other part, and whether there is no other.
func modelFront(parts []modelPart) (string, bool) {
	front := ""
	for _, p := range parts {
		s, ok := p.fixed()
		if !ok {
			return front, false
		}
		front += s
	}
	return front, true
}

// modelString writes the parts, row by row of those that are not fixed.
func modelString(parts []modelPart) string {
	out, row := "", ""
	flush := func() {
		out += strings.Repeat("?", strings.Count(row, "?"))
		if strings.Contains(row, "*") {
			out += "*"
		}
		row = ""
	}
	for _, p := range parts {
		s, ok := p.fixed()
		if !ok {
			row += string(p)
			continue
		}
		flush()
		if s == "*" || s == "?" || s == "\\" {
			out += "\\"
		}
		out += s
	}
	flush()
	return out
}

// rows gives all rows of at most n of the pieces.
func rows(pieces []string, n int) iter.Seq[string] {
	return func(yield func(string) bool) {
		growRows("", pieces, n, yield)
	}
}

func growRows(front string, pieces []string, n int, yield func(string) bool) bool {
	if !yield(front) {
		return false
	}
	for _, p := range pieces {
		if n > 0 && !growRows(front+p, pieces, n-1, yield) {
			return false
		}
	}
	return true
}
