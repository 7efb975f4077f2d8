package web

import (
	"math/rand"
	"slices"
	"strconv"
	"strings"
	"testing"

	"tocsin/api"
)

// asked is a request; the headers are names and values in turn.
func asked(method, target, body string, last bool, headers ...string) api.Request {
	return api.Request{Method: method, Target: target, Headers: pairs(headers), Body: []byte(body), Last: last}
}

func pairs(texts []string) [][2]string {
	var list [][2]string
	for pair := range slices.Chunk(texts, 2) {
		list = append(list, [2]string{pair[0], pair[1]})
	}
	return list
}

// cuts are sizes of pieces in which bytes are handed in.
func cuts(s string) []int { return []int{1, 2, 3, 7, 64, len(s)/2 + 1, len(s) + 1} }

// reads wants these requests of bytes, in whatever pieces they come; so many wait then.
func reads(t *testing.T, s string, waits int, want ...api.Request) {
	t.Helper()
	for _, size := range cuts(s) {
		p := NewParser()
		var got []api.Request
		for piece := range slices.Chunk([]byte(s), size) {
			list, err := p.Feed(slices.Clone(piece))
			if err != nil {
				t.Fatalf("X1: %.300q, %d bytes at a time: %v", s, size, err)
			}
			got = append(got, list...)
		}
		if !slices.EqualFunc(got, want, sameRequest) {
			t.Fatalf("X2: %.300q, %d bytes at a time: %+v, want %+v", s, size, got, want)
		}
		if p.Waits() != waits {
			t.Fatalf("X4: %.300q, %d bytes at a time: %d wait, want %d", s, size, p.Waits(), waits)
		}
	}
}

// fails wants a fault that is shown by the last byte of s, not sooner, behind so many requests; it stays, whatever comes.
func fails(t *testing.T, s string, many, at int, errno api.Errno) {
	t.Helper()
	want := api.Fault{At: at, Err: errno}
	p := NewParser()
	n := 0
	for i := range len(s) {
		list, err := p.Feed([]byte(s[i : i+1]))
		n += len(list)
		if f := faultOf(t, err); (f != api.Fault{}) != (i == len(s)-1) {
			t.Errorf("X1: %.300q, %d bytes long: behind %d bytes %v", s, len(s), i+1, f)
			return
		}
	}
	for _, more := range []string{"", "\r\n", "GET / HTTP/1.1\r\nhost:x\r\n\r\n", "\x00"} {
		list, err := p.Feed([]byte(more))
		if f := faultOf(t, err); f != want || len(list) > 0 || n != many || p.Waits() != 0 {
			t.Errorf("X3, X4: %.300q: %d requests, then %v, %d more, %d wait; want %d and %v", s, n, f, len(list), p.Waits(), many, want)
		}
		once := NewParser()
		list, err = once.Feed([]byte(s + more))
		if f := faultOf(t, err); f != want || len(list) != many || once.Waits() != 0 {
			t.Errorf("X1: %.300q and %q: %d requests, %v, %d wait; want %d and %v", s, more, len(list), f, once.Waits(), many, want)
		}
	}
}

const chunkedHead = "POST / HTTP/1.1\r\nhost:x\r\ntransfer-encoding: chunked\r\n\r\n"

func TestDocumentsRequests(t *testing.T) { // the chapter's examples
	reads(t, lined("GET /a HTTP/1.1\nHost: x\n\n"), 0, asked("GET", "/a", "", false, "host", "x"))
	reads(t, lined("POST / HTTP/1.1\nhost:x\ncontent-length: 2\n\nabGET"), 3, asked("POST", "/", "ab", false, "host", "x", "content-length", "2"))
	fails(t, "GET  ", 0, 4, api.ErrRequest)
	fails(t, "GET / HTTP/2.0", 0, 6, api.ErrVersion)
	fails(t, "GET / HTTP/1.1\n", 0, 14, api.ErrRequest)
	fails(t, "GET /\r", 0, 5, api.ErrRequest)
	fails(t, "GET / HTTP/1.1\r\nHost ", 0, 20, api.ErrRequest)
	fails(t, "GET / HTTP/1.1\r\n\r\n", 0, 18, api.ErrRequest)
	for lines, errno := range map[string]api.Errno{"Content-Length: 5\nTransfer-Encoding: chunked": api.ErrRequest, "Transfer-Encoding: gzip": api.ErrCoding} {
		s := lined("GET / HTTP/1.1\nHost: x\n" + lines + "\n\n")
		fails(t, s, 0, len(s), errno)
	}
	reads(t, chunkedHead+lined("2\nab\n1;x=y\nc\n0\n\n"), 0, asked("POST", "/", "abc", false, "host", "x", "transfer-encoding", "chunked"))
}

func TestNothing(t *testing.T) { // X1, X4: a parser to which nothing came
	for _, b := range [][]byte{nil, {}} {
		p := NewParser()
		if p.Waits() != 0 {
			t.Errorf("X4: %d bytes wait at a new parser", p.Waits())
		}
		for range 3 {
			if list, err := p.Feed(b); len(list) != 0 || err != nil || p.Waits() != 0 {
				t.Errorf("X1: Feed of nothing: %+v, %v, %d wait", list, err, p.Waits())
			}
		}
	}
}

func TestRequestsAsTheyAre(t *testing.T) { // X2: Method, Target and Headers
	all := "!#$%&'*+-.^_`|~0123456789ABCDEFGHIJKLMNOPQRSTUVWXYZabcdefghijklmnopqrstuvwxyz"
	reads(t, all+lined(" / HTTP/1.1\nhost:x\n\n"), 0, asked(all, "/", "", false, "host", "x"))
	reads(t, "G / HTTP/1.1\r\nhost:x\r\n"+all+":\r\n\r\n", 0, asked("G", "/", "", false, "host", "x", strings.ToLower(all), ""))
	target := "/"
	for c := byte(33); c <= 126; c++ {
		target += string(c)
	}
	reads(t, "get "+target+lined(" HTTP/1.1\nhost:x\n\n"), 0, asked("get", target, "", false, "host", "x"))
	value := "!"
	for c := 0; c < 256; c++ {
		if c == 9 || 32 <= c && c <= 126 || c >= 128 {
			value += string([]byte{byte(c)})
		}
	}
	reads(t, "G / HTTP/1.1\r\nhost:x\r\na: \t "+value+"\t \t\r\n\r\n", 0, asked("G", "/", "", false, "host", "x", "a", value))
	reads(t, lined("G / HTTP/1.1\nB:2\nhost:\nb: 1\nA:\t\nB:2\n\n"), 0, asked("G", "/", "", false, "b", "2", "host", "", "b", "1", "a", "", "b", "2"))
	reads(t, lined("G / HTTP/1.0\nconnection:keep-alive\n\n"), 0, asked("G", "/", "", false, "connection", "keep-alive"))
	reads(t, lined("G / HTTP/1.0\nhost:x\nconnection:keep-alive\n\n"), 0, asked("G", "/", "", false, "host", "x", "connection", "keep-alive"))
}

func TestLinesAheadOfRequest(t *testing.T) { // X2, X4: they belong to it, but not to its head
	for _, n := range []int{1, 2, 3, 1100, 100000} {
		ahead := strings.Repeat("\r\n", n)
		reads(t, ahead, 2*n)
		reads(t, ahead+"\r", 2*n+1)
		reads(t, ahead+"G", 2*n+1)
		reads(t, ahead+lined("G / HTTP/1.1\nhost:x\n\n")+"\r\n", 2, asked("G", "/", "", false, "host", "x"))
	}
}

func TestSeveralRequests(t *testing.T) { // X1, X3: each is told, up to the first with Last
	one := asked("PUT", "/1", "GET /x HTTP/1.1\r\n", false, "host", "x", "content-length", "17")
	two := asked("GET", "/2", "", false, "host", "x")
	three := asked("POST", "/", "abc", false, "host", "x", "transfer-encoding", "chunked")
	last := asked("GET", "/", "", true, "host", "x", "connection", "close")
	const (
		oneText   = "PUT /1 HTTP/1.1\r\nhost:x\r\ncontent-length: 17\r\n\r\nGET /x HTTP/1.1\r\n"
		twoText   = "GET /2 HTTP/1.1\r\nhost:x\r\n\r\n"
		threeText = chunkedHead + "3\r\nabc\r\n0\r\n\r\n"
		lastText  = "GET / HTTP/1.1\r\nhost:x\r\nconnection: close\r\n\r\n"
	)
	reads(t, oneText+twoText+threeText+"\r\n"+oneText, 0, one, two, three, one)
	reads(t, threeText+threeText+twoText[:20], 20, three, three)
	reads(t, twoText+oneText+lastText, 0, two, one, last)
	for _, behind := range []string{"x", twoText, lastText, "(", "\n\n", "\x00", strings.Repeat("x", 5000)} {
		reads(t, twoText+lastText+behind, 0, two, last)
		reads(t, lastText+behind, 0, last)
	}
	fails(t, oneText+twoText+"\r\n\n", 2, len(oneText+twoText)+2, api.ErrRequest)
	fails(t, twoText+twoText+twoText+"G(", 3, 3*len(twoText)+1, api.ErrRequest)
	fails(t, twoText+"GET / HTTP/1.1\r\n\r\n", 1, len(twoText)+18, api.ErrRequest)
	fails(t, threeText+"GET / HTTP/1.9", 1, len(threeText)+6, api.ErrVersion)
	fails(t, twoText+chunkedHead+"1771\r\n", 1, len(twoText+chunkedHead), api.ErrBody)
}

func TestWaits(t *testing.T) { // X4: what came and belongs to no whole request
	p := NewParser()
	came := 0
	for _, c := range []struct {
		text  string
		waits int
	}{{"\r", 1}, {"\n", 2}, {"", 2}, {"PUT / HTTP/1.1\r\n", 18}, {"host:x\r\ncontent-length:3\r\n\r\n", 46}, {"ab", 48}, {"c", 0}, {"\r\n\r\nG", 5}, {" / HTTP/1.1\r\nhost:\r\n\r\nGG", 2}} {
		list, err := p.Feed([]byte(c.text))
		came += len(list)
		if err != nil || p.Waits() != c.waits || p.Waits() != c.waits {
			t.Errorf("behind %q: %d wait, %v; want %d", c.text, p.Waits(), err, c.waits)
		}
	}
	if came != 2 {
		t.Errorf("%d requests, want 2", came)
	}
}

func TestLast(t *testing.T) { // X2: Last of 1.1 and of 1.0
	for _, c := range []struct {
		values   string // of the headers connection, parted by |
		one, old bool   // Last of 1.1, of 1.0
	}{
		{"", false, true}, {"close", true, true}, {"CLOSE", true, true}, {"cLoSe", true, true}, {"keep-alive", false, false}, {"Keep-Alive", false, false}, {"KEEP-ALIVE", false, false},
		{"x", false, true}, {"closed", false, true}, {"clos", false, true}, {"close close", false, true}, {"close;", false, true}, {"keep-alive;x", false, true}, {"keep alive", false, true}, {"x-close", false, true},
		{"a,close", true, true}, {"close,a", true, true}, {"a , \tClose\t ,b", true, true}, {",close", true, true}, {"close,", true, true}, {",,,", false, true}, {",,close,,", true, true},
		{"a,keep-alive", false, false}, {"keep-alive,a", false, false}, {"a,\tKeep-ALIVE ,b", false, false}, {",keep-alive,", false, false},
		{"close,keep-alive", true, true}, {"keep-alive,close", true, true}, {"close|keep-alive", true, true}, {"keep-alive|close", true, true}, {"x|y|CLOSE", true, true}, {"x|y|Keep-Alive|z", false, false}, {"||", false, true}, {"clo|se", false, true},
		{"\u212aeep-alive", false, true}, {"clo\u017fe", false, true}, {"\xffclose", false, true}, {"\u00a0close", false, true},
	} {
		headers := []string{"host", "x"}
		if c.values != "" {
			for _, v := range strings.Split(c.values, "|") {
				headers = append(headers, "connection", v)
			}
		}
		for _, close := range []string{"Connection", "connection", "CONNECTION"} {
			text := "host:x\r\n" + strings.Repeat(close+": %\r\n", len(headers)/2-1) + "\r\n"
			for _, h := range pairs(headers)[1:] {
				text = strings.Replace(text, "%", h[1], 1)
			}
			reads(t, "GET / HTTP/1.1\r\n"+text, 0, asked("GET", "/", "", c.one, headers...))
			reads(t, "GET / HTTP/1.0\r\n"+text, 0, asked("GET", "/", "", c.old, headers...))
		}
	}
	reads(t, lined("GET / HTTP/1.1\nhost:x\nproxy-connection: close\nx: close\n\nG"), 1, asked("GET", "/", "", false, "host", "x", "proxy-connection", "close", "x", "close"))
	withBody := asked("PUT", "/", "ab", true, "host", "x", "connection", "close", "content-length", "2")
	reads(t, lined("PUT / HTTP/1.1\nhost:x\nconnection:close\ncontent-length:2\n\na"), 63)
	reads(t, lined("PUT / HTTP/1.1\nhost:x\nconnection:close\ncontent-length:2\n\nabc"), 0, withBody)
	reads(t, lined("PUT / HTTP/1.1\nhost:x\nconnection:close\ntransfer-encoding:chunked\n\n1\na\n0\n\nGET"), 0, asked("PUT", "/", "a", true, "host", "x", "connection", "close", "transfer-encoding", "chunked"))
}

func TestBehindLast(t *testing.T) { // X3, X4: nothing is looked at
	p := NewParser()
	list, err := p.Feed([]byte("GET / HTTP/1.0\r\n\r\n("))
	if len(list) != 1 || !list[0].Last || err != nil || p.Waits() != 0 {
		t.Fatalf("%+v, %v, %d wait", list, err, p.Waits())
	}
	for _, s := range []string{"", "(", "\x00\x00", "GET / HTTP/1.1\r\nhost:x\r\n\r\n", strings.Repeat("\r\n", 3000)} {
		if list, err := p.Feed([]byte(s)); len(list) != 0 || err != nil || p.Waits() != 0 {
			t.Errorf("Feed(%.40q): %+v, %v, %d wait", s, list, err, p.Waits())
		}
	}
}

func TestBodiesByLength(t *testing.T) { // X2
	text := strings.Repeat("GET / HTTP/1.1\r\n\r\n\x00\xff", 400)
	for _, n := range []int{0, 1, 2, 9, 10, 99, 100, 512, 2048, 2049, 5999, 6000} {
		for _, length := range []string{strconv.Itoa(n), "0" + strconv.Itoa(n), strings.Repeat("0", 1000) + strconv.Itoa(n)} {
			head := lined("PUT /b HTTP/1.1\nhost:x\nContent-Length:\t" + length + " \n\n")
			whole := asked("PUT", "/b", text[:n], false, "host", "x", "content-length", length)
			reads(t, head+text[:n], 0, whole)
			reads(t, head+text[:n]+"\r\n", 2, whole)
			if n > 0 {
				reads(t, head+text[:n-1], len(head)+n-1)
			}
		}
	}
	reads(t, lined("PUT / HTTP/1.0\ncontent-length:3\nconnection:keep-alive\n\nabcd"), 1, asked("PUT", "/", "abc", false, "content-length", "3", "connection", "keep-alive"))
	reads(t, lined("PUT / HTTP/1.0\ncontent-length:3\n\nabcd"), 0, asked("PUT", "/", "abc", true, "content-length", "3"))
}

// inChunks writes a body in chunks of chosen sizes, with what is let be.
func inChunks(rnd *rand.Rand, body string, size func() int) string {
	s := ""
	for body != "" {
		n := min(size(), len(body))
		digits := strconv.FormatInt(int64(n), 16)
		if rnd.Intn(2) > 0 {
			digits = strings.ToUpper(digits)
		}
		s += strings.Repeat("0", rnd.Intn(3)) + digits + oneOf(rnd, "", "", ";", ";a=b", "; \t\"q\";\xff;;") + "\r\n" + body[:n] + "\r\n"
		body = body[n:]
	}
	return s + oneOf(rnd, "0", "000", "0;end") + "\r\n" + oneOf(rnd, "", "", "x: y\r\n", "host: z\r\nContent-Length: 7\r\nconnection:close\r\n") + "\r\n"
}

func TestChunks(t *testing.T) { // X2, and what follows: chunks of whatever sizes are read as a body with its length
	rnd := rand.New(rand.NewSource(3))
	text := strings.Repeat("0\r\n\r\nab;\x00\xff5\r\n", 500)
	for _, n := range []int{0, 1, 2, 15, 16, 17, 255, 256, 257, 4095, 4096, 5999, 6000} {
		want := asked("POST", "/", text[:n], false, "host", "x", "transfer-encoding", "chunked")
		for _, size := range []func() int{func() int { return 6000 }, func() int { return 1 }, func() int { return 16 }, func() int { return 1 + rnd.Intn(40) }, func() int { return 1 + rnd.Intn(3000) }} {
			s := chunkedHead + inChunks(rnd, text[:n], size)
			reads(t, s, 0, want)
			reads(t, s+"\r\nG", 3, want)
		}
	}
}

func TestTrailersAreLetBe(t *testing.T) { // X2: Headers are those of the head, Last is by the head
	const trailers = "Host: y\r\nTransfer-Encoding: gzip\r\ncontent-length: x\r\nConnection: close\r\nz:\r\n"
	want := asked("POST", "/", "", false, "host", "x", "transfer-encoding", "chunked")
	reads(t, chunkedHead+"0\r\n"+trailers+"\r\nG", 1, want)
	reads(t, chunkedHead+"0\r\n"+trailers, len(chunkedHead+"0\r\n"+trailers))
	reads(t, chunkedHead+"0\r\n"+trailers+"\r", len(chunkedHead+"0\r\n"+trailers+"\r"))
}

func TestParsersAreTheirOwn(t *testing.T) { // P4
	a, b := NewParser(), NewParser()
	textA, textB := lined("PUT /a HTTP/1.1\nhost:a\ncontent-length:2\n\naa"), lined("PUT /b HTTP/1.1\nhost:b\ncontent-length:2\n\nb(")
	var gotA, gotB []api.Request
	for i := range len(textA) {
		listA, errA := a.Feed([]byte(textA[i : i+1]))
		listB, errB := b.Feed([]byte(textB[i : i+1]))
		if errA != nil || errB != nil {
			t.Fatal(errA, errB)
		}
		gotA, gotB = append(gotA, listA...), append(gotB, listB...)
	}
	if _, err := a.Feed([]byte("(")); err == nil {
		t.Error("no fault of the first")
	}
	if _, err := b.Feed([]byte("G")); err != nil || b.Waits() != 1 || a.Waits() != 0 {
		t.Errorf("the second has the first one's fault: %v", err)
	}
	if len(gotA) != 1 || len(gotB) != 1 || gotA[0].Target != "/a" || gotB[0].Target != "/b" || string(gotA[0].Body) != "aa" || string(gotB[0].Body) != "b(" {
		t.Errorf("%+v, %+v", gotA, gotB)
	}
}
