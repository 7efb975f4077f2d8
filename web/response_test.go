package web

import (
	"math/rand"
	"strconv"
	"strings"
	"testing"

	"tocsin/api"
)

// answered is a response; the headers are names and values in turn.
func answered(status int, body string, last bool, headers ...string) api.Response {
	return api.Response{Status: status, Headers: pairs(headers), Body: []byte(body), Last: last}
}

// readsAnswer wants this response of bytes, with anything behind it, and nothing of what is cut off.
func readsAnswer(t *testing.T, s string, want api.Response) {
	t.Helper()
	for _, behind := range []string{"", "H", "\r\n", "HTTP/1.1 (", "\x00", s, "HTTP/1.1 200 OK\r\n\r\n", strings.Repeat("x", 3000)} {
		r, n, err := ParseResponse([]byte(s + behind))
		if !sameResponse(r, want) || n != len(s) || err != nil {
			t.Fatalf("X7: ParseResponse(%.300q and %.20q): %+v, %d, %v; want %+v, %d", s, behind, r, n, err, want, len(s))
		}
	}
	step := 1 + len(s)/3000
	for i := 0; i < len(s); i += step {
		isNoAnswer(t, s[:i])
	}
	isNoAnswer(t, s[:len(s)-1])
}

// isNoAnswer wants that bytes are no whole response, and that nothing is wrong.
func isNoAnswer(t *testing.T, s string) {
	t.Helper()
	if r, n, err := ParseResponse([]byte(s)); !sameResponse(r, api.Response{}) || n != 0 || err != nil {
		t.Fatalf("X7: ParseResponse(%.300q): %+v, %d, %v; want nothing", s, r, n, err)
	}
}

// failsAnswer wants a fault that is shown by the last byte of s, not sooner; whatever comes behind.
func failsAnswer(t *testing.T, s string, at int, errno api.Errno) {
	t.Helper()
	isNoAnswer(t, s[:len(s)-1])
	want := api.Fault{At: at, Err: errno}
	for _, behind := range []string{"", "\r\n", "\x00", "HTTP/1.1 200 OK\r\n\r\n"} {
		r, n, err := ParseResponse([]byte(s + behind))
		if f := faultOf(t, err); !sameResponse(r, api.Response{}) || n != 0 || f != want {
			t.Errorf("X7: ParseResponse(%.300q): %+v, %d, %v; want %v", s+behind, r, n, f, want)
		}
	}
}

// answerSamples are responses, right ones and such that are not.
func answerSamples() []string {
	list := []string{
		"HTTP/1.1 200 OK\n\n", "HTTP/1.0 404 \n\n", "HTTP/1.1 599 \xff\t x \nA:b\n\nHTTP", "HTTP/1.1 200 OK\nContent-Length: 3\nconnection: Close\n\nab\nc",
		"HTTP/1.0 200 OK\nconnection: keep-alive\ncontent-length:0\n\n", "HTTP/1.1 204 No Content\ncontent-length:5\n\nabcde", "HTTP/1.1 304 x\ntransfer-encoding:chunked\n\n1\na\n",
		"HTTP/1.1 500 x\ntransfer-encoding: chunked\n\n2\nab\n1;x=y\nc\n0\nt: u\n\nmore", "HTTP/1.1 200 OK\ncontent-length: 1000000000\n\n", "HTTP/1.1 204 OK\ntransfer-encoding: gzip\n\n",
		"HTTP/1.1 200 OK\ncontent-length: 1\ncontent-length: 1\n\n1", "HTTP/1.1 199 OK\n\n", "HTTP/2.0 200 OK\n\n", "HTTP/1.1 200 OK\n a:b\n\n", "\nHTTP/1.1 200 OK\n\n",
	}
	for i, s := range list {
		list[i] = lined(s)
	}
	return list
}

func TestEachByteAtEachPlaceOfAnswer(t *testing.T) { // X7
	for _, s := range answerSamples() {
		heldAnswers(t, s)
		for i := range len(s) + 1 {
			for c := range 256 {
				hurt := s[:i] + string([]byte{byte(c)}) + s[min(i+1, len(s)):]
				told := tellResponse(hurt)
				for _, came := range []int{i, min(i+1, len(hurt)), min(i+2, len(hurt)), len(hurt)} {
					heldAnswer(t, hurt, told, came)
				}
			}
			heldAnswers(t, s[:i]+s[min(i+1, len(s)):])
			heldAnswers(t, s[:i]+" "+s[i:])
		}
	}
}

func TestAnswers(t *testing.T) { // X7
	readsAnswer(t, lined("HTTP/1.1 200 OK\ncontent-length: 2\nA: b\n\nhi"), answered(200, "hi", false, "content-length", "2", "a", "b"))
	readsAnswer(t, lined("HTTP/1.1 200 OK\n\n"), answered(200, "", false))
	readsAnswer(t, lined("HTTP/1.1 200 OK\nhost:a\nhost:b\n\n"), answered(200, "", false, "host", "a", "host", "b"))
	readsAnswer(t, lined("HTTP/1.0 599 \n\n"), answered(599, "", true))
	readsAnswer(t, lined("HTTP/1.0 200 \nhost:\nconnection: Keep-Alive\n\n"), answered(200, "", false, "host", "", "connection", "Keep-Alive"))
	readsAnswer(t, lined("HTTP/1.1 200 \nconnection: x,close\n\n"), answered(200, "", true, "connection", "x,close"))
	readsAnswer(t, lined("HTTP/1.1 500  \ntransfer-encoding:chunked\n\n2\nab\n0\nt:\n\n"), answered(500, "ab", false, "transfer-encoding", "chunked"))
	readsAnswer(t, lined("HTTP/1.1 200 \x80\xff\t!~ \t\ncontent-length:0\n\n"), answered(200, "", false, "content-length", "0"))
	readsAnswer(t, "HTTP/1.1 200 "+strings.Repeat("r", 2048-17)+"\r\n\r\n", answered(200, "", false))
	for status := 200; status <= 599; status++ {
		readsAnswer(t, lined("HTTP/1.1 "+strconv.Itoa(status)+" x\n\n"), answered(status, "", false))
	}
}

func TestAnswersWithoutBody(t *testing.T) { // X7: 204 and 304, whatever the headers say; the rules are asked all the same
	for _, status := range []int{204, 304} {
		line := "HTTP/1.1 " + strconv.Itoa(status) + " x\r\n"
		readsAnswer(t, line+"\r\n", answered(status, "", false))
		readsAnswer(t, line+lined("content-length: 7\n\n"), answered(status, "", false, "content-length", "7"))
		readsAnswer(t, line+lined("content-length: 999999999\nconnection:close\n\n"), answered(status, "", true, "content-length", "999999999", "connection", "close"))
		readsAnswer(t, line+lined("transfer-encoding: chunked\n\n"), answered(status, "", false, "transfer-encoding", "chunked"))
		for lines, errno := range map[string]api.Errno{"content-length:x\n": api.ErrRequest, "content-length:1\ncontent-length:1\n": api.ErrRequest, "content-length:1\ntransfer-encoding:chunked\n": api.ErrRequest, "transfer-encoding:gzip\n": api.ErrCoding, "content-length:1000000000\n": api.ErrBody} {
			s := line + lined(lines+"\n")
			failsAnswer(t, s, len(s), errno)
		}
	}
	isNoAnswer(t, lined("HTTP/1.1 205 x\ncontent-length:1\n\n"))
	isNoAnswer(t, lined("HTTP/1.1 303 x\ncontent-length:1\n\n"))
}

func TestFaultsOfStatusLine(t *testing.T) { // X7
	for s, at := range map[string]int{
		"\r": 0, "\n": 0, "h": 0, " ": 0, "\x00": 0, "G": 0, "Ht": 1, "HTTP1": 4, "HTTP/x": 5, "HTTP/1,": 6, "HTTP/1.x": 7, "HTTP/1.1\r": 8, "HTTP/1.12": 8, "HTTP/1.1\t": 8,
		"HTTP/1.1  ": 9, "HTTP/1.1 x": 9, "HTTP/1.1 -": 9, "HTTP/1.1 +": 9, "HTTP/1.1 \r": 9, "HTTP/1.1 2x": 10, "HTTP/1.1 2 ": 10, "HTTP/1.1 20x": 11, "HTTP/1.1 20 ": 11, "HTTP/1.1 20\r": 11,
		"HTTP/1.1 199": 9, "HTTP/1.1 600": 9, "HTTP/1.1 000": 9, "HTTP/1.1 099": 9, "HTTP/1.1 100": 9, "HTTP/1.1 999": 9, "HTTP/1.0 101": 9,
		"HTTP/1.1 2000": 12, "HTTP/1.1 200\r": 12, "HTTP/1.1 200\n": 12, "HTTP/1.1 200\t": 12, "HTTP/1.1 200x": 12,
		"HTTP/1.1 200 \n": 13, "HTTP/1.1 200 \x00": 13, "HTTP/1.1 200 O\x7f": 14, "HTTP/1.1 200 O\x1f": 14, "HTTP/1.1 200 OK\n": 15, "HTTP/1.1 200 OK\rx": 16, "HTTP/1.1 200 \r\r": 14,
	} {
		failsAnswer(t, s, at, api.ErrRequest)
	}
	for _, version := range []string{"2.0", "1.2", "0.9", "0.0", "9.9", "3.1"} {
		failsAnswer(t, "HTTP/"+version, 0, api.ErrVersion)
	}
}

func TestFaultsOfAnswers(t *testing.T) { // X7: the rest of the head, and the body, as of a request
	const line = "HTTP/1.1 200 OK\r\n" // 17 bytes
	for s, at := range map[string]int{" ": 0, ":": 0, "\n": 0, "\rx": 1, "a ": 1, "a\r": 1, "a:\n": 2, "a:\x00": 2, "a:b\rc": 4, "a:\r\n\t": 4} {
		failsAnswer(t, line+s, 17+at, api.ErrRequest)
	}
	for lines, errno := range map[string]api.Errno{
		"content-length:1\ntransfer-encoding:chunked\n": api.ErrRequest, "content-length:x\ntransfer-encoding:gzip\n": api.ErrRequest, "transfer-encoding:gzip\n": api.ErrCoding, "transfer-encoding:chunked\ntransfer-encoding:chunked\n": api.ErrCoding, "transfer-encoding:chun\u212aed\n": api.ErrCoding,
		"content-length:1\ncontent-length:1\n": api.ErrRequest, "content-length:\n": api.ErrRequest, "content-length:1000000000\ncontent-length:1\n": api.ErrRequest, "content-length:1000000000\n": api.ErrBody, "content-length:4294967296\n": api.ErrBody, "content-length:18446744073709551617\n": api.ErrBody,
	} {
		s := line + lined(lines+"\n")
		failsAnswer(t, s, len(s), errno)
	}
	s := lined("HTTP/1.0 200 OK\ntransfer-encoding:chunked\n\n")
	failsAnswer(t, s, len(s), api.ErrRequest)
	s = lined("HTTP/1.0 200 OK\ntransfer-encoding:gzip\n\n")
	failsAnswer(t, s, len(s), api.ErrRequest)
	head := line + "transfer-encoding:chunked\r\n\r\n"
	for s, at := range map[string]int{"x": 0, "\r": 0, "1 ": 1, "1\n": 1, "1;\x00": 2, "1\r\nab": 4, "1\r\na\rb": 5, "0\r\n ": 3, "0\r\na\r": 4, "0\r\n\rx": 4} {
		failsAnswer(t, head+s, len(head)+at, api.ErrRequest)
	}
}

func TestBoundsOfAnswers(t *testing.T) { // X7: the head, the headers, the size lines and the trailers have those of requests
	const line = "HTTP/1.1 200 OK\r\n"
	headers := strings.Repeat("a:b\r\n", 32)
	many := make([]string, 64)
	for i := range many {
		many[i] = []string{"a", "b"}[i%2]
	}
	readsAnswer(t, line+headers+"\r\n", answered(200, "", false, many...))
	failsAnswer(t, line+headers+"(", len(line+headers), api.ErrHead)
	value := strings.Repeat("v", 2048-len(line)-6)
	readsAnswer(t, line+"a:"+value+"\r\n\r\n", answered(200, "", false, "a", value))
	failsAnswer(t, line+"a:"+value+"vvvv\x00", 2048, api.ErrHead)
	failsAnswer(t, line+"a:"+value+"v\r\n\r\n", 2048, api.ErrHead)
	failsAnswer(t, "HTTP/1.1 200 "+strings.Repeat("r", 2048-13)+"\r", 2048, api.ErrHead)
	head := line + "transfer-encoding:chunked\r\n\r\n"
	failsAnswer(t, head+strings.Repeat("0", 65), len(head)+64, api.ErrHead)
	failsAnswer(t, head+"0\r\n"+headers+"x", len(head)+3+32*5, api.ErrHead)
	failsAnswer(t, head+"0\r\n"+strings.Repeat("x", 2049), len(head)+3+2048, api.ErrHead)
	readsAnswer(t, head+strings.Repeat("0", 64)+"\r\n"+headers+"\r\n", answered(200, "", false, "transfer-encoding", "chunked"))
}

func TestLongAnswers(t *testing.T) { // X7: MaxBody is 999999999
	rnd := rand.New(rand.NewSource(5))
	for _, n := range []int{5999, 6000, 6001, 100000, 1 << 21} {
		body := strings.Repeat("0123456789abcde\n", n/16+1)[:n]
		length := strconv.Itoa(n)
		s := "HTTP/1.1 200 OK\r\ncontent-length: " + length + "\r\n\r\n" + body
		r, at, err := ParseResponse([]byte(s + "x"))
		if !sameResponse(r, answered(200, body, false, "content-length", length)) || at != len(s) || err != nil {
			t.Errorf("of %d bytes: %d, %v", n, at, err)
		}
		isNoAnswer(t, s[:len(s)-1])
		s = "HTTP/1.1 200 OK\r\ntransfer-encoding: chunked\r\n\r\n" + inChunks(rnd, body, func() int { return 1 + rnd.Intn(n) })
		r, at, err = ParseResponse([]byte(s + "x"))
		if !sameResponse(r, answered(200, body, false, "transfer-encoding", "chunked")) || at != len(s) || err != nil {
			t.Errorf("of %d bytes in chunks: %d, %v", n, at, err)
		}
		isNoAnswer(t, s[:len(s)-1])
	}
	const head = "HTTP/1.1 200 OK\r\ntransfer-encoding:chunked\r\n\r\n"
	isNoAnswer(t, lined("HTTP/1.1 200 OK\ncontent-length: 999999999\n\nx"))
	isNoAnswer(t, lined("HTTP/1.1 200 OK\ncontent-length: 0000999999999\n\nx"))
	isNoAnswer(t, head+"3b9ac9ff\r\nx")
	isNoAnswer(t, head+"1\r\na\r\n3B9AC9FE\r\nx")
	failsAnswer(t, head+"3b9aca00\r\n", len(head), api.ErrBody)
	failsAnswer(t, head+"1\r\na\r\n3b9ac9ff\r\n", len(head)+6, api.ErrBody)
	failsAnswer(t, head+"13b9ac9ff\r\n", len(head), api.ErrBody)
	failsAnswer(t, head+"10000000000000001\r\n", len(head), api.ErrBody)
	failsAnswer(t, head+strings.Repeat("f", 64)+"\r\n", len(head), api.ErrBody)
}

func TestNoBytesAreNoAnswer(t *testing.T) { // X7
	for _, b := range [][]byte{nil, {}} {
		if r, n, err := ParseResponse(b); !sameResponse(r, api.Response{}) || n != 0 || err != nil {
			t.Errorf("%+v, %d, %v", r, n, err)
		}
	}
}
