package web

import (
	"errors"
	"math/rand"
	"slices"
	"strconv"
	"strings"
	"testing"

	"tocsin/api"
)

// lined is a text in which each line ends with CR LF.
func lined(s string) string { return strings.ReplaceAll(s, "\n", "\r\n") }

func sameRequest(a, b api.Request) bool {
	return a.Method == b.Method && a.Target == b.Target && slices.Equal(a.Headers, b.Headers) && string(a.Body) == string(b.Body) && a.Last == b.Last
}

func sameResponse(a, b api.Response) bool {
	return a.Status == b.Status && slices.Equal(a.Headers, b.Headers) && string(a.Body) == string(b.Body) && a.Last == b.Last
}

// faultOf is the fault that an error is; the empty one: it is none.
func faultOf(t testing.TB, err error) api.Fault {
	if err == nil {
		return api.Fault{}
	}
	var f *api.Fault
	if !errors.As(err, &f) || !errors.Is(err, f.Err) || f.Err == api.OK {
		t.Fatalf("P5: %v is no fault", err)
	}
	return *f
}

// A listener feeds a parser and holds what it tells against a tale.
type listener struct {
	testing.TB
	text   string
	tale   tale
	parser *Parser
	came   int
	many   int // requests that were told
}

func listen(t testing.TB, s string) *listener {
	return &listener{TB: t, text: s, tale: tellRequests(s), parser: NewParser()}
}

// again is one for the same bytes, to whom nothing came.
func (l *listener) again() *listener {
	return &listener{TB: l.TB, text: l.text, tale: l.tale, parser: NewParser()}
}

// feed hands in the next n bytes; what was handed in is spoilt then.
func (l *listener) feed(n int) {
	piece := l.text[l.came:min(l.came+n, len(l.text))]
	b := []byte(piece + "behind")
	got, err := l.parser.Feed(b[:len(piece)])
	if string(b) != piece+"behind" {
		l.Fatalf("P3: Feed(%q) has written into what was handed in", piece)
	}
	clear(b)
	l.came += len(piece)
	many, wrong, waits := l.tale.ask(l.came)
	for _, r := range got {
		if l.many >= len(l.tale.finds) || !sameRequest(r, l.tale.finds[l.many].request) {
			l.Fatalf("X1, X2: %.300q: %d bytes have come: the request %+v", l.text, l.came, r)
		}
		l.many++
	}
	var want api.Fault
	if wrong {
		want = l.tale.fault
	}
	if f := faultOf(l, err); l.many != many || f != want {
		l.Fatalf("X1, X3: %.300q: %d bytes have come: %d requests and %v, want %d and %v", l.text, l.came, l.many, f, many, want)
	}
	if got := l.parser.Waits(); got != waits {
		l.Fatalf("X4: %.300q: %d bytes have come: %d wait, want %d", l.text, l.came, got, waits)
	}
}

// rest hands in all that has not come, so many bytes at a time.
func (l *listener) rest(n int) {
	for l.came < len(l.text) {
		l.feed(n)
	}
	l.feed(0)
}

// held wants the same of bytes, in one piece and byte by byte.
func held(t testing.TB, s string) {
	t.Helper()
	l := listen(t, s)
	l.rest(len(s))
	l.again().rest(1)
}

// heldAt wants the same of bytes in one piece, and with one of them by itself.
func heldAt(t testing.TB, s string, at int) {
	l := listen(t, s)
	l.rest(len(s))
	l = l.again()
	l.feed(at)
	l.feed(1)
	l.rest(len(s))
}

// heldCut wants the same of bytes that come in two pieces, wherever they are cut.
func heldCut(t testing.TB, s string) {
	t.Helper()
	held(t, s)
	l := listen(t, s)
	for i := range len(s) {
		l = l.again()
		l.feed(i)
		l.rest(len(s))
	}
}

// heldAnswer wants the model's answer of the response that bytes begin with, when so many of them have come.
func heldAnswer(t testing.TB, s string, told tale, came int) {
	t.Helper()
	b := []byte(s + "behind")
	r, n, err := ParseResponse(b[:came])
	if string(b) != s+"behind" {
		t.Fatalf("P3: ParseResponse(%.300q) has written into what was handed in", s[:came])
	}
	clear(b)
	many, wrong, _ := told.ask(came)
	var want find
	var fault api.Fault
	if many > 0 {
		want = told.finds[0]
	} else if wrong {
		fault = told.fault
	}
	if f := faultOf(t, err); !sameResponse(r, want.response) || n != want.end || f != fault {
		t.Fatalf("X7: ParseResponse(%.300q), %d bytes: %+v, %d, %v; want %+v, %d, %v", s[:came], came, r, n, f, want.response, want.end, fault)
	}
}

// heldAnswers wants that of all beginnings of bytes.
func heldAnswers(t testing.TB, s string) {
	t.Helper()
	told := tellResponse(s)
	for came := range len(s) + 1 {
		heldAnswer(t, s, told, came)
	}
}

// samples are requests, right ones and such that are not.
func samples() []string {
	const head = "POST /a?b HTTP/1.1\nHost: x\n"
	list := []string{
		"", "\n\n", "\n\nGET / HTTP/1.1\nhost:\n\n\n", "G!T /x/y HTTP/1.1\nhost: \t x\ty \t\nA-b:\nc:d\n\n",
		"GET / HTTP/1.0\n\n", "GET / HTTP/1.0\nConnection: x, Keep-Alive\n\nGET / HTTP/1.0\n\nmore",
		head + "connection: upgrade ,\tCLOSE\n\nmore", head + "connection: closed,close-\n\nGET",
		head + "Content-Length: 5\n\nab\ncGET", head + "content-length: 000\n\nGET", head + "content-length: 12a\n\n",
		head + "content-length: 1\ncontent-length: 1\n\n1", head + "content-length: 6001\n\n",
		head + "transfer-encoding: CHUNKED\n\n2\nab\n1;x=y\nc\n00A;\t\xff\n0123456789\n0\n\nGET",
		head + "transfer-encoding: chunked\n\n0;z\nx:y\nZ: \n\nGET / HTTP/1.1\nhost:x\n\n",
		head + "transfer-encoding: chunked\n\n3\n\n1\n0\n\n", head + "transfer-encoding: gzip\n\n",
		head + "transfer-encoding: chunked\n\n1771\n", head + "transfer-encoding: chunked\n\n1\na\n1770\n",
		head + "transfer-encoding: chunked\ncontent-length: 1\n\n", head + "host: y\n\n", "GET / HTTP/1.1\n\n",
		"GET / HTTP/1.2\n\n", "GET / HTTP/1.1\nhost : x\n\n", "GET / HTTP/1.1\n host: x\n\n",
	}
	for i, s := range list {
		list[i] = lined(s)
	}
	return list
}

func TestSamplesInPieces(t *testing.T) { // X1 to X4
	for _, s := range samples() {
		heldCut(t, s)
		l := listen(t, s)
		for size := 2; size < 40; size++ {
			l.again().rest(size)
		}
	}
}

func TestSamplesInThreePieces(t *testing.T) { // X1
	for _, s := range samples() {
		l := listen(t, s)
		for i := range len(s) {
			for k := range len(s) - i {
				l = l.again()
				l.feed(i)
				l.feed(k)
				l.rest(len(s))
			}
		}
	}
}

func TestEachByteAtEachPlace(t *testing.T) { // X1 to X4: each fault at its place
	for _, s := range samples() {
		for i := range len(s) + 1 {
			for c := range 256 {
				heldAt(t, s[:i]+string([]byte{byte(c)})+s[min(i+1, len(s)):], i) // in the place of another one
			}
			for _, c := range "\x00\t\n\r :;,/0aG\x7f" {
				held(t, s[:i]+string(c)+s[i:]) // ahead of it
			}
			held(t, s[:i]+s[min(i+1, len(s)):])
		}
	}
}

// oneOf is one of some texts.
func oneOf(rnd *rand.Rand, texts ...string) string { return texts[rnd.Intn(len(texts))] }

// seldom is one of some texts, and else as a rule the first.
func seldom(rnd *rand.Rand, rule string, texts ...string) string {
	if rnd.Intn(12) > 0 {
		return rule
	}
	return oneOf(rnd, texts...)
}

// chanceHeaders is header lines, with an eye to those that count.
func chanceHeaders(rnd *rand.Rand) string {
	s := ""
	for range rnd.Intn(4) {
		name := oneOf(rnd, "Connection", "connection", "x", "A-B", seldom(rnd, "accept", "host", "content-length", "transfer-encoding", "", "a b"))
		value := oneOf(rnd, "close", "Close", "keep-alive", "x", "", "a, close", "close,keep-alive", ",,", "closed", " KEEP-ALIVE ,x", seldom(rnd, "y", "\x00", "\xc3\xa9", "clo\u017fe", "\u212aeep-alive"))
		s += name + seldom(rnd, ":", " :", "", "::") + oneOf(rnd, "", " ", "\t ") + value + oneOf(rnd, "", " ") + seldom(rnd, "\r\n", "\n", "\r", "\r\n ")
	}
	return s
}

// chanceBody is the headers that tell of a body, and the body.
func chanceBody(rnd *rand.Rand) (string, string) {
	n := rnd.Intn(30)
	body := strings.Repeat(oneOf(rnd, "a", "\r\n", "0", "GET / "), n)[:n]
	switch rnd.Intn(4) {
	case 0:
		length := seldom(rnd, strconv.Itoa(n), "0"+strconv.Itoa(n), "6001", "x", "", "-1", "99999999999999999999", "1000000000", "5999")
		return "content-length: " + length + seldom(rnd, "\r\n", "\r\ncontent-length: 3\r\n", "\r\ntransfer-encoding: chunked\r\n"), body
	case 1:
		return seldom(rnd, "transfer-encoding: chunked\r\n", "transfer-encoding: gzip\r\n", "Transfer-Encoding:\tChunKed \r\n", "transfer-encoding: chunked\r\ntransfer-encoding: chunked\r\n"), chanceChunks(rnd, body)
	}
	return "", ""
}

// chanceChunks is a body in chunks, with trailers or without.
func chanceChunks(rnd *rand.Rand, body string) string {
	s := ""
	for body != "" {
		n := 1 + rnd.Intn(len(body))
		s += seldom(rnd, strconv.FormatInt(int64(n), 16), strconv.FormatInt(int64(n), 10), "00"+strings.ToUpper(strconv.FormatInt(int64(n), 16)), "", "ffffffffffffffffff", "3b9ac9ff", "1770")
		s += seldom(rnd, "", ";", ";x=y", ";\xff\t", " ", ";\x00") + "\r\n" + body[:n] + seldom(rnd, "\r\n", "\n", "", "x")
		body = body[n:]
	}
	return s + seldom(rnd, "0", "000", "0;x", "") + "\r\n" + chanceHeaders(rnd) + seldom(rnd, "\r\n", "\n", "\rx")
}

func chanceRequest(rnd *rand.Rand) string {
	headers, body := chanceBody(rnd)
	return strings.Repeat(seldom(rnd, "", "\r\n"), rnd.Intn(3)) +
		seldom(rnd, "GET", "a!", "", "G\x80T", "x(") + seldom(rnd, " ", "  ", "\t") +
		seldom(rnd, "/v1/x?y", "/", "x", "", "/\x7f") + seldom(rnd, " ", "  ") +
		seldom(rnd, "HTTP/1.1", "HTTP/1.0", "HTTP/1.0", "HTTP/2.0", "http/1.1", "HTTP/1.10") + seldom(rnd, "\r\n", "\n", "\r") +
		seldom(rnd, "Host: x\r\n", "", "host:\r\nhost:\r\n") + chanceHeaders(rnd) + headers + chanceHeaders(rnd) + seldom(rnd, "\r\n", "\r") + body
}

func chanceResponse(rnd *rand.Rand) string {
	headers, body := chanceBody(rnd)
	return seldom(rnd, "", "\r\n") + seldom(rnd, "HTTP/1.1", "HTTP/1.0", "HTTP/2.0", "HTTP/1,1") + seldom(rnd, " ", "  ", "\t") +
		seldom(rnd, oneOf(rnd, "200", "404", "599"), "204", "304", "199", "600", "2000", "20", "-20") + seldom(rnd, " ", "", "\r\n") +
		seldom(rnd, "OK", "", "\xc3\xa9\t ", "\x00") + seldom(rnd, "\r\n", "\n", "\r") +
		chanceHeaders(rnd) + headers + chanceHeaders(rnd) + seldom(rnd, "\r\n", "\r") + body
}

// hurt is a text in which, now and then, a byte is another one, or a piece is gone or there twice.
func hurt(rnd *rand.Rand, s string) string {
	if s == "" || rnd.Intn(2) > 0 {
		return s
	}
	i := rnd.Intn(len(s))
	k := min(i+rnd.Intn(4), len(s))
	return s[:i] + oneOf(rnd, s[k:], s[i:k]+s[i:], string([]byte{byte(rnd.Intn(256))})+s[k:])
}

func TestRequestsByChance(t *testing.T) { // X1 to X4
	rnd := rand.New(rand.NewSource(18))
	whole, wrong := 0, 0
	for range 20000 {
		s := ""
		for range 1 + rnd.Intn(4) {
			s += chanceRequest(rnd)
		}
		s = hurt(rnd, s)
		held(t, s)
		l := listen(t, s)
		for range 3 {
			l = l.again()
			for l.came < len(s) {
				l.feed(rnd.Intn(1 + rnd.Intn(60)))
			}
		}
		whole += len(l.tale.finds)
		if l.tale.fault.Err != api.OK {
			wrong++
		}
	}
	if whole < 5000 || wrong < 5000 {
		t.Errorf("the rows say too little: %d requests, %d faults", whole, wrong)
	}
}

func TestResponsesByChance(t *testing.T) { // X7
	rnd := rand.New(rand.NewSource(7))
	whole, wrong := 0, 0
	for range 10000 {
		s := hurt(rnd, chanceResponse(rnd))
		heldAnswers(t, s)
		told := tellResponse(s)
		whole += len(told.finds)
		if told.fault.Err != api.OK {
			wrong++
		}
	}
	if whole < 2000 || wrong < 2000 {
		t.Errorf("the texts say too little: %d responses, %d faults", whole, wrong)
	}
}

func FuzzFeed(f *testing.F) { // X1 to X4
	for i, s := range samples() {
		f.Add([]byte(s), i)
	}
	f.Fuzz(func(t *testing.T, b []byte, cut int) {
		s := string(b)
		held(t, s)
		l := listen(t, s)
		l.feed(max(0, cut%(len(s)+1)))
		l.rest(len(s))
	})
}

func FuzzParseResponse(f *testing.F) { // X7
	for _, s := range answerSamples() {
		f.Add([]byte(s))
	}
	f.Fuzz(func(t *testing.T, b []byte) { heldAnswers(t, string(b)) })
}
