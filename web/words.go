package web

import (
	"strings"

	"tocsin/api"
)

const (
	blanks     = " \t"
	tokenMarks = "!#$%&'*+-.^_`|~"
)

func isDigit(c byte) bool { return '0' <= c && c <= '9' }

func isGreat(c byte) bool { return 'A' <= c && c <= 'Z' }

func isBlank(c byte) bool { return c == ' ' || c == '\t' }

func isTokenByte(c byte) bool {
	return isDigit(c) || isGreat(c) || 'a' <= c && c <= 'z' || strings.IndexByte(tokenMarks, c) >= 0
}

func isTargetByte(c byte) bool { return 33 <= c && c <= 126 }

// isTextByte tells whether a byte may stand in a value, and in what is let be.
func isTextByte(c byte) bool { return c == '\t' || 32 <= c && c <= 126 || c >= 128 }

func isStatus(n int) bool { return 200 <= n && n <= 599 }

// hasNoBody tells whether a response with this status has none, whatever it says.
func hasNoBody(status int) bool { return status == 204 || status == 304 }

// all tells whether all bytes of a text are of a kind.
func all(text string, is func(c byte) bool) bool {
	for i := range len(text) {
		if !is(text[i]) {
			return false
		}
	}
	return true
}

func isToken(text string) bool { return text != "" && all(text, isTokenByte) }

func isNumber(text string) bool { return text != "" && all(text, isDigit) }

func isTarget(text string) bool {
	return strings.HasPrefix(text, "/") && len(text) <= api.MaxTarget && all(text, isTargetByte)
}

func isValue(text string) bool { return all(text, isTextByte) && strings.Trim(text, blanks) == text }

// small is a letter's small one: of A to Z alone, whatever else has one in Unicode.
func small(c byte) byte {
	if isGreat(c) {
		return c + ('a' - 'A')
	}
	return c
}

func smallText(text string) string {
	b := []byte(text)
	for i, c := range b {
		b[i] = small(c)
	}
	return string(b)
}

// hasItem tells whether one of the lists has an item, in letters of either size.
func hasItem(lists []string, item string) bool {
	for _, list := range lists {
		for _, one := range strings.Split(list, ",") {
			if smallText(strings.Trim(one, blanks)) == item {
				return true
			}
		}
	}
	return false
}

// hexDigit is what a hex digit stands for; -1: it is none.
func hexDigit(c byte) int64 {
	switch {
	case isDigit(c):
		return int64(c - '0')
	case 'a' <= small(c) && small(c) <= 'f':
		return int64(small(c)-'a') + 10
	}
	return -1
}
