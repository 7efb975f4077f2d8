package jsonval_test

import (
	"regexp"
	"strconv"
	"strings"
	"unicode/utf8"

	"tocsin/api"
)

// The model of Parse: a machine with one state and a stack, over whole tokens, each known by a pattern of its own. It answers only whether, where and why a text is refused.

var (
	wordForm   = regexp.MustCompile(`^[a-zA-Z]+`)
	numberRun  = regexp.MustCompile(`^[0-9-][0-9+\-.eE]*`)
	numberForm = regexp.MustCompile(`^-?(0|[1-9][0-9]*)(\.[0-9]+)?([eE][+-]?[0-9]+)?$`)
	intForm    = regexp.MustCompile(`^-?[0-9]+$`)
	escapeForm = regexp.MustCompile(`^\\(["\\/bfnrt]|u([0-9a-cA-CefEF][0-9a-fA-F]{3}|[dD][0-7][0-9a-fA-F]{2}|[dD][89abAB][0-9a-fA-F]{2}\\u[dD][c-fC-F][0-9a-fA-F]{2}))`)
	escapeCut  = regexp.MustCompile(`^\\(u([0-9a-fA-F]{0,3}|[dD][89abAB][0-9a-fA-F]{2}(\\(u[0-9a-fA-F]{0,3})?)?))?$`)
)

type spot struct {
	at  int
	err api.Errno
}

// modelSign tells how long the right sequence is with which s begins; 0: there is none; cut: s is the beginning of one.
func modelSign(s string) (size int, cut bool) {
	for n := 1; n <= 4 && n <= len(s); n++ {
		if utf8.ValidString(s[:n]) {
			return n, false
		}
	}
	for _, tail := range []string{"\x80", "\xbf", "\x80\x80", "\x90\x80", "\xbf\x80", "\x80\x80\x80", "\x90\x80\x80"} {
		if utf8.ValidString(s + tail) {
			return 0, true
		}
	}
	return 0, false
}

// modelString reads a string that begins at from; it gives where it ends, and what it says.
func modelString(s string, from int) (end int, text string, wrong spot) {
	at := from + 1
	for at < len(s) {
		rest := s[at:]
		if rest[0] == '"' {
			return at + 1, text, spot{}
		}
		if rest[0] < 32 {
			return 0, "", spot{at, api.ErrSyntax}
		}
		if rest[0] == '\\' {
			m := escapeForm.FindString(rest)
			switch {
			case m != "":
				text += modelEscape(m)
				at += len(m)
			case escapeCut.MatchString(rest):
				return 0, "", spot{len(s), api.ErrSyntax}
			default:
				return 0, "", spot{at, api.ErrSyntax}
			}
			continue
		}
		size, cut := modelSign(rest)
		if cut {
			return 0, "", spot{len(s), api.ErrSyntax}
		}
		if size == 0 {
			return 0, "", spot{at, api.ErrUTF8}
		}
		text += rest[:size]
		at += size
	}
	return 0, "", spot{len(s), api.ErrSyntax}
}

// modelEscape tells what a right escape stands for.
func modelEscape(m string) string {
	switch m[1] {
	case 'b':
		return "\x08"
	case 't':
		return "\x09"
	case 'n':
		return "\x0a"
	case 'f':
		return "\x0c"
	case 'r':
		return "\x0d"
	case 'u':
		n, _ := strconv.ParseUint(m[2:6], 16, 32)
		if len(m) == 12 {
			low, _ := strconv.ParseUint(m[8:12], 16, 32)
			n = (n-0xd7c0)*1024 + (low - 0xdc00)
		}
		return string(rune(n))
	}
	return m[1:2]
}

// modelScalar reads a word, a number or a string.
func modelScalar(s string, at int) (end int, wrong spot) {
	rest := s[at:]
	if m := wordForm.FindString(rest); m != "" {
		if m == "null" || m == "true" || m == "false" {
			return at + len(m), spot{}
		}
		return 0, spot{at, api.ErrSyntax}
	}
	if m := numberRun.FindString(rest); m != "" {
		if !numberForm.MatchString(m) {
			return 0, spot{at, api.ErrSyntax}
		}
		digits := strings.TrimPrefix(m, "-")
		if !intForm.MatchString(m) || len(digits) > 16 || len(digits) == 16 && digits > "9007199254740991" {
			return 0, spot{at, api.ErrNumber}
		}
		return at + len(m), spot{}
	}
	if rest[0] == '"' {
		end, _, wrong = modelString(s, at)
		return end, wrong
	}
	return 0, spot{at, api.ErrSyntax}
}

// What may stand next.
const (
	aValue = iota
	anItem // or the end of a list of none
	aKey
	aMember // a key, or the end of an object of none
	aColon
	aComma // or an end
	nothing
)

type level struct {
	object bool
	had    int
	keys   map[string]bool
}

type machine struct {
	s     string
	at    int
	state int
	stack []*level
}

func (m *machine) top() *level { return m.stack[len(m.stack)-1] }

// close ends a value.
func (m *machine) close() {
	m.state = nothing
	if len(m.stack) > 0 {
		m.state = aComma
		m.top().had++
	}
}

// step does one token, which begins with c, and tells what is wrong.
func (m *machine) step(c byte) spot {
	syntax := spot{m.at, api.ErrSyntax}
	if len(m.stack) > 0 && m.top().had == 64 && (m.state == aKey || m.state == aValue && !m.top().object) {
		return spot{m.at, api.ErrSize}
	}
	end := len(m.stack) > 0 && c == map[bool]byte{true: '}', false: ']'}[m.top().object]
	switch {
	case end && (m.state == anItem || m.state == aMember || m.state == aComma):
		m.at++
		m.stack = m.stack[:len(m.stack)-1]
		m.close()
	case m.state == aComma && c == ',':
		m.at++
		m.state = map[bool]int{true: aKey, false: aValue}[m.top().object]
	case m.state == aColon && c == ':':
		m.at++
		m.state = aValue
	case (m.state == aKey || m.state == aMember) && c == '"':
		after, key, wrong := modelString(m.s, m.at)
		if wrong.err != 0 {
			return wrong
		}
		if m.top().keys[key] {
			return spot{m.at, api.ErrTwice}
		}
		m.top().keys[key] = true
		m.at, m.state = after, aColon
	case (m.state == aValue || m.state == anItem) && (c == '[' || c == '{'):
		if len(m.stack) == 10 {
			return spot{m.at, api.ErrDepth}
		}
		m.stack = append(m.stack, &level{object: c == '{', keys: map[string]bool{}})
		m.state = map[bool]int{true: aMember, false: anItem}[c == '{']
		m.at++
	case m.state == aValue || m.state == anItem:
		after, wrong := modelScalar(m.s, m.at)
		if wrong.err != 0 {
			return wrong
		}
		m.at = after
		m.close()
	default:
		return syntax
	}
	return spot{}
}

// model tells where and why Parse refuses a text; why is OK, if it does not.
func model(s string) spot {
	if len(s) > 4096 {
		return spot{4096, api.ErrSize}
	}
	m := &machine{s: s}
	for {
		for m.at < len(s) && strings.IndexByte(" \t\r\n", s[m.at]) >= 0 {
			m.at++
		}
		if m.at == len(s) && m.state == nothing {
			return spot{}
		}
		if m.at == len(s) {
			return spot{len(s), api.ErrSyntax}
		}
		if wrong := m.step(s[m.at]); wrong.err != 0 {
			return wrong
		}
	}
}
