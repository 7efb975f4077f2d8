package jsonval

import (
	"slices"
	"strconv"
	"strings"
	"unicode/utf8"

	"tocsin/api"
)

// A backslash and one of escapeLetters stand for the byte at the same place of escapeBytes.
const (
	escapeLetters = "\"\\/bfnrt"
	escapeBytes   = "\"\\/\b\f\n\r\t"
)

// Surrogates: a high one and a low one together are one code point from firstPaired on.
const (
	firstHigh   = 0xd800
	firstLow    = 0xdc00
	lastLow     = 0xdfff
	firstPaired = 0x10000
)

// reader goes through a text from the left. Whatever is wrong, its methods panic with the fault, as nothing is to be done behind it.
type reader struct {
	text string
	at   int
	open int // lists and objects that have begun and not ended
}

// Parse reads a value; an error is an *api.Fault (J1).
func Parse(b []byte) (v *Value, err error) {
	if len(b) > api.MaxJSON {
		return nil, fault(api.MaxJSON, api.ErrSize)
	}
	defer func() {
		if given := recover(); given != nil {
			v, err = nil, given.(*api.Fault)
		}
	}()
	r := reader{text: string(b)}
	return r.whole(), nil
}

func fault(at int, why api.Errno) *api.Fault { return &api.Fault{At: at, Err: why} }

// next is the byte that stands here, where something must stand.
func (r *reader) next() byte {
	if r.at == len(r.text) {
		panic(fault(r.at, api.ErrSyntax))
	}
	return r.text[r.at]
}

// take goes past a byte that must stand here.
func (r *reader) take(c byte) {
	if r.next() != c {
		panic(fault(r.at, api.ErrSyntax))
	}
	r.at++
}

// run goes past all bytes from here on that are of this kind, and gives them.
func (r *reader) run(is func(byte) bool) string {
	from := r.at
	for r.at < len(r.text) && is(r.text[r.at]) {
		r.at++
	}
	return r.text[from:r.at]
}

func (r *reader) blanks() { r.run(isBlank) }

func (r *reader) whole() *Value {
	r.blanks()
	v := r.value()
	r.blanks()
	if r.at < len(r.text) {
		panic(fault(r.at, api.ErrSyntax))
	}
	return v
}

func (r *reader) value() *Value {
	switch c := r.next(); {
	case isLetter(c):
		return r.word()
	case isDigit(c) || c == '-':
		return r.number()
	case c == '"':
		return &Value{kind: Text, text: r.quoted()}
	case c == '[':
		return r.list()
	case c == '{':
		return r.object()
	}
	panic(fault(r.at, api.ErrSyntax))
}

func (r *reader) word() *Value {
	from := r.at
	switch r.run(isLetter) {
	case "null":
		return &Value{}
	case "true":
		return OfBool(true)
	case "false":
		return OfBool(false)
	}
	panic(fault(from, api.ErrSyntax))
}

func (r *reader) number() *Value {
	from := r.at
	s := r.run(isOfNumber)
	if !isNumber(s) {
		panic(fault(from, api.ErrSyntax))
	}
	n, err := strconv.ParseInt(s, 10, 64)
	if err != nil || n < -api.MaxInt || n > api.MaxInt {
		panic(fault(from, api.ErrNumber))
	}
	return OfInt(n)
}

// isNumber tells whether it is a number of JSON, be it whole or not.
func isNumber(s string) bool {
	whole, rest := digits(strings.TrimPrefix(s, "-"))
	if whole == "" || len(whole) > 1 && whole[0] == '0' {
		return false
	}
	part := "0"
	if strings.HasPrefix(rest, ".") {
		part, rest = digits(rest[1:])
	}
	power := "0"
	if strings.HasPrefix(rest, "e") || strings.HasPrefix(rest, "E") {
		rest = rest[1:]
		if strings.HasPrefix(rest, "+") || strings.HasPrefix(rest, "-") {
			rest = rest[1:]
		}
		power, rest = digits(rest)
	}
	return part != "" && power != "" && rest == ""
}

// digits parts the digits with which a text begins from what follows.
func digits(s string) (string, string) {
	rest := strings.TrimLeft(s, "0123456789")
	return s[:len(s)-len(rest)], rest
}

func (r *reader) list() *Value {
	r.begin()
	v := &Value{kind: List}
	for r.more(']', v.Len()) {
		v.items = append(v.items, r.value())
	}
	return v
}

func (r *reader) object() *Value {
	r.begin()
	v := &Value{kind: Object}
	for r.more('}', v.Len()) {
		key, place := r.key(v.keys)
		item := r.value()
		v.keys = slices.Insert(v.keys, place, key)
		v.items = slices.Insert(v.items, place, item)
	}
	return v
}

// begin goes past the bracket with which a list or an object begins.
func (r *reader) begin() {
	if r.open == api.MaxDepth {
		panic(fault(r.at, api.ErrDepth))
	}
	r.open++
	r.at++
}

// more tells whether one more item or member stands behind those that were had, and goes to its first byte; if none does, it goes past the end.
func (r *reader) more(end byte, had int) bool {
	r.blanks()
	if r.next() == end {
		r.open--
		r.at++
		return false
	}
	if had == 0 {
		return true
	}
	r.take(',')
	r.blanks()
	r.next()
	if had == api.MaxItems {
		panic(fault(r.at, api.ErrSize))
	}
	return true
}

// key reads what stands ahead of a member's value; it gives the key, and its place among those that were had.
func (r *reader) key(had []string) (string, int) {
	from := r.at
	if r.next() != '"' {
		panic(fault(from, api.ErrSyntax))
	}
	key := r.quoted()
	place, twice := slices.BinarySearch(had, key)
	if twice {
		panic(fault(from, api.ErrTwice))
	}
	r.blanks()
	r.take(':')
	r.blanks()
	return key, place
}

// quoted reads a text, from its first quote to the one that ends it.
func (r *reader) quoted() string {
	r.take('"')
	var text []byte
	for {
		switch c := r.next(); {
		case c == '"':
			r.at++
			return string(text)
		case c < ' ':
			panic(fault(r.at, api.ErrSyntax))
		case c == '\\':
			text = utf8.AppendRune(text, r.escape())
		default:
			text = utf8.AppendRune(text, r.sign())
		}
	}
}

func (r *reader) sign() rune {
	rest := r.text[r.at:]
	if !utf8.FullRuneInString(rest) {
		panic(fault(len(r.text), api.ErrSyntax))
	}
	sign, size := utf8.DecodeRuneInString(rest)
	if sign == utf8.RuneError && size == 1 {
		panic(fault(r.at, api.ErrUTF8))
	}
	r.at += size
	return sign
}

// escape reads what begins with a backslash; of a pair of surrogates both.
func (r *reader) escape() rune {
	from := r.at
	r.at++
	if i := strings.IndexByte(escapeLetters, r.next()); i >= 0 {
		r.at++
		return rune(escapeBytes[i])
	}
	r.at = from
	high := r.unit(from)
	if high < firstHigh || high > lastLow {
		return high
	}
	if high >= firstLow {
		panic(fault(from, api.ErrSyntax))
	}
	low := r.unit(from)
	if low < firstLow || low > lastLow {
		panic(fault(from, api.ErrSyntax))
	}
	return firstPaired + (high-firstHigh)<<10 + (low - firstLow)
}

// unit reads a backslash, u and four hex digits, which belong to the escape that begins at from.
func (r *reader) unit(from int) rune {
	n := rune(0)
	for i := range 6 {
		c := r.next()
		digit := hexDigit(c)
		switch {
		case i == 0 && c == '\\', i == 1 && c == 'u':
		case i > 1 && digit >= 0:
			n = n<<4 + digit
		default:
			panic(fault(from, api.ErrSyntax))
		}
		r.at++
	}
	return n
}

// hexDigit is what a hex digit stands for; -1: it is none.
func hexDigit(c byte) rune {
	switch {
	case isDigit(c):
		return rune(c - '0')
	case 'a' <= c && c <= 'f':
		return rune(c-'a') + 10
	case 'A' <= c && c <= 'F':
		return rune(c-'A') + 10
	}
	return -1
}

func isBlank(c byte) bool { return c == ' ' || c == '\t' || c == '\n' || c == '\r' }

func isLetter(c byte) bool { return 'a' <= c && c <= 'z' || 'A' <= c && c <= 'Z' }

func isDigit(c byte) bool { return '0' <= c && c <= '9' }

func isOfNumber(c byte) bool { return isDigit(c) || strings.IndexByte("+-.eE", c) >= 0 }
