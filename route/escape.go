package route

import (
	"strings"

	"tocsin/sign"
)

const (
	plainMarks = "-._~!$'()*+,;:@"
	hexDigits  = "0123456789ABCDEF"
)

func isDigit(c byte) bool { return '0' <= c && c <= '9' }

func isPlain(c byte) bool {
	return isDigit(c) || 'A' <= c && c <= 'Z' || 'a' <= c && c <= 'z' || strings.IndexByte(plainMarks, c) >= 0
}

// Unescape reads what stands in a path or a query; false: it may not stand there (Y6).
func Unescape(s string) (string, bool) {
	b := make([]byte, 0, len(s))
	for len(s) > 0 {
		switch {
		case isPlain(s[0]):
			b = append(b, s[0])
			s = s[1:]
		case s[0] == '%' && len(s) >= 3 && isHex(s[1]) && isHex(s[2]):
			b = append(b, hexValue(s[1])<<4|hexValue(s[2]))
			s = s[3:]
		default:
			return "", false
		}
	}
	if !sign.Valid(string(b)) {
		return "", false
	}
	return string(b), true
}

// Escape writes a text so that it may stand there (Y6).
func Escape(s string) string {
	b := make([]byte, 0, len(s))
	for i := range len(s) {
		if c := s[i]; isPlain(c) {
			b = append(b, c)
		} else {
			b = append(b, '%', hexDigits[c>>4], hexDigits[c&15])
		}
	}
	return string(b)
}

func isHex(c byte) bool { return isDigit(c) || 'A' <= c && c <= 'F' || 'a' <= c && c <= 'f' }

// hexValue is what a digit in base sixteen stands for.
func hexValue(c byte) byte {
	switch {
	case c >= 'a':
		return c - 'a' + 10
	case c >= 'A':
		return c - 'A' + 10
	}
	return c - '0'
}
