package route

import (
	"slices"
	"strings"

	"tocsin/api"
)

// root is what all targets begin with.
const root = "/v1"

// A pair of a query.
type pair struct{ name, value string }

// A target, taken apart; what was escaped is not so any more.
type target struct {
	segments []string
	query    []pair
}

// readTarget takes a target apart; false: it is none.
func readTarget(s string) (target, bool) {
	path, query, asks := strings.Cut(s, "?")
	rest, begins := strings.CutPrefix(path, root+"/")
	if len(s) > api.MaxTarget || !begins {
		return target{}, false
	}
	segments, ok := readSegments(rest)
	if !ok || !asks {
		return target{segments: segments}, ok
	}
	pairs, ok := readQuery(query)
	return target{segments: segments, query: pairs}, ok
}

func readSegments(s string) ([]string, bool) {
	var segments []string
	for piece := range strings.SplitSeq(s, "/") {
		segment, ok := Unescape(piece)
		if !ok {
			return nil, false
		}
		segments = append(segments, segment)
	}
	return segments, true
}

// readQuery reads pairs; none of them may have another one's name.
func readQuery(s string) ([]pair, bool) {
	var pairs []pair
	for piece := range strings.SplitSeq(s, "&") {
		escapedName, escapedValue, parted := strings.Cut(piece, "=")
		name, isName := Unescape(escapedName)
		value, isValue := Unescape(escapedValue)
		twice := slices.ContainsFunc(pairs, func(p pair) bool { return p.name == name })
		if !parted || !isName || !isValue || twice {
			return nil, false
		}
		pairs = append(pairs, pair{name: name, value: value})
	}
	return pairs, true
}

// print writes a target in its one way.
func (t target) print() string {
	var b strings.Builder
	b.WriteString(root)
	for _, s := range t.segments {
		b.WriteString("/" + Escape(s))
	}
	mark := "?"
	for _, p := range t.query {
		b.WriteString(mark + Escape(p.name) + "=" + Escape(p.value))
		mark = "&"
	}
	return b.String()
}
