package web

import (
	"regexp"
	"slices"
	"strconv"
	"strings"

	"tocsin/api"
)

// The model reads a whole row of bytes, one thing behind the other, as the chapter tells it; who wants a byte that is not there gives up.
// It tells not only what is found, but how many bytes must have come for that.

// A find is a message that is whole, and where it ends.
type find struct {
	request  api.Request
	response api.Response
	end      int
}

// A tale is all that is to be told of bytes.
type tale struct {
	finds []find
	fault api.Fault
	shown int // how many bytes show the fault
}

// ask is what has been told when so many bytes have come: how many requests, whether there is a fault, how many bytes wait.
func (s tale) ask(came int) (int, bool, int) {
	many, from := 0, 0
	for _, f := range s.finds {
		if f.end > came {
			break
		}
		many, from = many+1, f.end
		if f.request.Last {
			return many, false, 0
		}
	}
	if s.fault.Err != api.OK && s.shown <= came {
		return many, true, 0
	}
	return many, false, came - from
}

type lack struct{}

type flaw struct {
	api.Fault
	shown int
}

type scanner struct {
	s     string
	at    int
	bound int // where the head must have ended
	most  int
}

// tellRequests is what a parser is to tell of bytes.
func tellRequests(s string) (told tale) {
	r := &scanner{s: s, bound: -1, most: 6000}
	defer r.caught(&told)
	for {
		one := r.request()
		told.finds = append(told.finds, find{request: one, end: r.at})
		if one.Last {
			return told
		}
	}
}

// tellResponse is what ParseResponse is to tell of bytes.
func tellResponse(s string) (told tale) {
	r := &scanner{s: s, bound: 2048, most: 999999999}
	defer r.caught(&told)
	one := r.response()
	told.finds = append(told.finds, find{response: one, end: r.at})
	return told
}

func (r *scanner) caught(told *tale) {
	switch x := recover().(type) {
	case nil, lack:
	case flaw:
		told.fault, told.shown = x.Fault, x.shown
	default:
		panic(x)
	}
}

func (r *scanner) fail(at int, errno api.Errno) {
	panic(flaw{api.Fault{At: at, Err: errno}, r.at})
}

// bad is a fault at the byte that was read last.
func (r *scanner) bad() { r.fail(r.at-1, api.ErrRequest) }

func (r *scanner) next() byte {
	if r.at == len(r.s) {
		panic(lack{})
	}
	r.at++
	if r.at-1 == r.bound {
		r.fail(r.bound, api.ErrHead)
	}
	return r.s[r.at-1]
}

func (r *scanner) wants(c byte) {
	if r.next() != c {
		r.bad()
	}
}

const (
	digitSet = "0123456789"
	hexSet   = digitSet + "abcdefABCDEF"
	smallSet = "abcdefghijklmnopqrstuvwxyz"
	greatSet = "ABCDEFGHIJKLMNOPQRSTUVWXYZ"
	tokenSet = "!#$%&'*+-.^_`|~" + digitSet + smallSet + greatSet
)

// plainText tells whether all bytes are of those that may stand in a value.
func plainText(s string) bool {
	for i := range len(s) {
		if s[i] != 9 && (s[i] < 32 || s[i] == 127) {
			return false
		}
	}
	return true
}

func (r *scanner) token(end byte) string {
	from := r.at
	for {
		c := r.next()
		if strings.IndexByte(tokenSet, c) >= 0 {
			continue
		}
		if c != end || r.at-1 == from {
			r.bad()
		}
		return r.s[from : r.at-1]
	}
}

func (r *scanner) target() string {
	from := r.at
	r.wants('/')
	for {
		c := r.next()
		switch {
		case c == ' ':
			return r.s[from : r.at-1]
		case c < 33 || c > 126:
			r.bad()
		case r.at-from > 512:
			r.fail(r.at-1, api.ErrHead)
		}
	}
}

// version tells whether it is 1.1.
func (r *scanner) version() bool {
	from := r.at
	for i := range 5 {
		r.wants("HTTP/"[i])
	}
	r.digit()
	r.wants('.')
	r.digit()
	switch r.s[from:r.at] {
	case "HTTP/1.0":
		return false
	case "HTTP/1.1":
	default:
		r.fail(from, api.ErrVersion)
	}
	return true
}

func (r *scanner) digit() {
	if strings.IndexByte(digitSet, r.next()) < 0 {
		r.bad()
	}
}

func (r *scanner) lineEnd() {
	r.wants('\r')
	r.wants('\n')
}

// textLine reads what may be anything, up to the end of the line.
func (r *scanner) textLine() string {
	from := r.at
	for {
		c := r.next()
		if c == '\r' {
			r.wants('\n')
			return r.s[from : r.at-2]
		}
		if !plainText(string([]byte{c})) {
			r.bad()
		}
	}
}

func (r *scanner) headers() [][2]string {
	var all [][2]string
	for {
		from := r.at
		if r.next() == '\r' {
			r.wants('\n')
			r.bound = -1
			return all
		}
		if len(all) == 32 {
			r.fail(from, api.ErrHead)
		}
		r.at = from
		name := r.token(':')
		all = append(all, [2]string{strings.ToLower(name), strings.Trim(r.textLine(), " \t")})
	}
}

func (r *scanner) request() api.Request {
	for r.next() == '\r' {
		r.wants('\n')
	}
	r.at--
	r.bound = r.at + 2048
	q := api.Request{Method: r.token(' '), Target: r.target()}
	one := r.version()
	r.lineEnd()
	q.Headers = r.headers()
	if hosts := find1(q.Headers, "host"); len(hosts) > 1 || one && len(hosts) == 0 {
		r.fail(r.at, api.ErrRequest)
	}
	r.rules(q.Headers, one)
	q.Body = r.body(q.Headers)
	q.Last = isLast(q.Headers, one)
	return q
}

func (r *scanner) response() api.Response {
	one := r.version()
	r.wants(' ')
	from := r.at
	for range 3 {
		r.digit()
	}
	var a api.Response
	a.Status, _ = strconv.Atoi(r.s[from:r.at])
	if a.Status/100 < 2 || a.Status/100 > 5 {
		r.fail(from, api.ErrRequest)
	}
	r.wants(' ')
	r.textLine()
	a.Headers = r.headers()
	r.rules(a.Headers, one)
	if a.Status != 204 && a.Status != 304 {
		a.Body = r.body(a.Headers)
	}
	a.Last = isLast(a.Headers, one)
	return a
}

func find1(headers [][2]string, name string) []string {
	var values []string
	for _, h := range headers {
		if h[0] == name {
			values = append(values, h[1])
		}
	}
	return values
}

var (
	chunkedWord = regexp.MustCompile(`^[cC][hH][uU][nN][kK][eE][dD]$`)
	digitsOnly  = regexp.MustCompile(`^[0-9]+$`)
	closeItem   = regexp.MustCompile(`(^|,)[ \t]*[cC][lL][oO][sS][eE][ \t]*(,|$)`)
	keepItem    = regexp.MustCompile(`(^|,)[ \t]*[kK][eE][eE][pP]-[aA][lL][iI][vV][eE][ \t]*(,|$)`)
)

// rules asks the rules 2 to 5.
func (r *scanner) rules(headers [][2]string, one bool) {
	codings, lengths := find1(headers, "transfer-encoding"), find1(headers, "content-length")
	if len(codings) > 0 {
		if len(lengths) > 0 || !one {
			r.fail(r.at, api.ErrRequest)
		}
		if len(codings) != 1 || !chunkedWord.MatchString(codings[0]) {
			r.fail(r.at, api.ErrCoding)
		}
	}
	if len(lengths) > 0 {
		if len(lengths) != 1 || !digitsOnly.MatchString(lengths[0]) {
			r.fail(r.at, api.ErrRequest)
		}
		if r.tooMany(lengths[0], 10, 0) {
			r.fail(r.at, api.ErrBody)
		}
	}
}

// tooMany tells whether digits say more than a body may have, with what it has already.
func (r *scanner) tooMany(digits string, base int, has int) bool {
	n, err := strconv.ParseInt(digits, base, 50)
	return err != nil || int(n)+has > r.most
}

func (r *scanner) body(headers [][2]string) []byte {
	if lengths := find1(headers, "content-length"); len(lengths) > 0 {
		n, _ := strconv.Atoi(lengths[0])
		return []byte(r.bytes(n))
	}
	if len(find1(headers, "transfer-encoding")) > 0 {
		return r.chunks()
	}
	return nil
}

func (r *scanner) bytes(n int) string {
	if r.at+n > len(r.s) {
		panic(lack{})
	}
	r.at += n
	return r.s[r.at-n : r.at]
}

func (r *scanner) chunks() []byte {
	var body []byte
	for {
		from := r.at
		digits := r.sizeLine()
		if r.tooMany(digits, 16, len(body)) {
			r.fail(from, api.ErrBody)
		}
		n, _ := strconv.ParseInt(digits, 16, 50)
		if n == 0 {
			r.bound = r.at + 2048
			r.headers()
			return body
		}
		body = append(body, r.bytes(int(n))...)
		r.lineEnd()
	}
}

// sizeLine gives the digits of a size line.
func (r *scanner) sizeLine() string {
	from, end := r.at, -1
	for {
		c := r.next()
		switch {
		case c == '\r' && r.at-1 > from:
			r.wants('\n')
			if end < 0 {
				end = r.at - 2
			}
			return r.s[from:end]
		case r.at-from > 64:
			r.fail(from+64, api.ErrHead)
		case end < 0 && strings.IndexByte(hexSet, c) >= 0:
		case end < 0 && c == ';' && r.at-1 > from:
			end = r.at - 1
		case end < 0 || !plainText(string([]byte{c})):
			r.bad()
		}
	}
}

func isLast(headers [][2]string, one bool) bool {
	values := find1(headers, "connection")
	if slices.ContainsFunc(values, closeItem.MatchString) {
		return true
	}
	return !one && !slices.ContainsFunc(values, keepItem.MatchString)
}
