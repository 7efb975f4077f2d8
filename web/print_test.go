package web

import (
	"math"
	"math/rand"
	"slices"
	"strconv"
	"strings"
	"testing"

	"tocsin/api"
)

// prints wants these bytes of a request.
func prints(t *testing.T, r api.Request, want string) {
	t.Helper()
	if b, errno := PrintRequest(r); string(b) != want || errno != api.OK {
		t.Errorf("X5: PrintRequest(%.99q, %.99q, %.200q): %q, %d; want %q", r.Method, r.Target, r.Headers, b, errno, want)
	}
}

// printsNot wants an error of a request, and nil.
func printsNot(t *testing.T, r api.Request, want api.Errno) {
	t.Helper()
	if b, errno := PrintRequest(r); b != nil || errno != want {
		t.Errorf("X5, P2: PrintRequest(%.99q, %.99q, %.200q): %q, %d; want nil, %d", r.Method, r.Target, r.Headers, b, errno, want)
	}
}

func answers(t *testing.T, r api.Response, want string) {
	t.Helper()
	if b, errno := PrintResponse(r); string(b) != want || errno != api.OK {
		t.Errorf("X6: PrintResponse(%d, %.200q): %q, %d; want %q", r.Status, r.Headers, b, errno, want)
	}
}

func answersNot(t *testing.T, r api.Response, want api.Errno) {
	t.Helper()
	if b, errno := PrintResponse(r); b != nil || errno != want {
		t.Errorf("X6, P2: PrintResponse(%d, %.200q): %q, %d; want nil, %d", r.Status, r.Headers, b, errno, want)
	}
}

func TestPrintRequest(t *testing.T) { // X5: the bytes
	prints(t, asked("GET", "/", "", false), lined("GET / HTTP/1.1\nhost: home\n\n"))
	prints(t, asked("GET", "/", "", true), lined("GET / HTTP/1.1\nhost: home\nconnection: close\n\n"))
	prints(t, asked("g!t", "/a?b=%20", "x", false), lined("g!t /a?b=%20 HTTP/1.1\nhost: home\ncontent-length: 1\n\nx"))
	prints(t, asked("PUT", "/a", "x\r\ny\x00", true, "b", "2", "a", "1", "b", "2"), "PUT /a HTTP/1.1\r\nhost: home\r\nb: 2\r\na: 1\r\nb: 2\r\ncontent-length: 5\r\nconnection: close\r\n\r\nx\r\ny\x00")
	prints(t, asked("PUT", "/a", "xy", true, "accept", "*/*", "host", "h"), lined("PUT /a HTTP/1.1\naccept: */*\nhost: h\ncontent-length: 2\nconnection: close\n\nxy"))
	prints(t, asked("GET", "/", "", false, "host", ""), lined("GET / HTTP/1.1\nhost: \n\n"))
	prints(t, asked("GET", "/", "", false, "a", "", "hosts", "x"), lined("GET / HTTP/1.1\nhost: home\na: \nhosts: x\n\n"))
	prints(t, asked("GET", "/", "", false, "a", "x \t y\xff,z"), "GET / HTTP/1.1\r\nhost: home\r\na: x \t y\xff,z\r\n\r\n")
	prints(t, api.Request{Method: "A", Target: "/", Headers: [][2]string{}, Body: []byte{}}, lined("A / HTTP/1.1\nhost: home\n\n"))
}

func TestDocumentsResponse(t *testing.T) { // the chapter's example
	answers(t, answered(200, "hi", true), lined("HTTP/1.1 200 OK\ncontent-length: 2\nconnection: close\n\nhi"))
}

func TestPrintResponse(t *testing.T) { // X6: the bytes
	answers(t, answered(200, "", false), lined("HTTP/1.1 200 OK\ncontent-length: 0\n\n"))
	answers(t, answered(404, "x", true, "host", "a", "x", "", "host", "b"), lined("HTTP/1.1 404 Not Found\nhost: a\nx: \nhost: b\ncontent-length: 1\nconnection: close\n\nx"))
	answers(t, answered(204, "", false), lined("HTTP/1.1 204 No Content\n\n"))
	answers(t, answered(204, "", true, "a", "b"), lined("HTTP/1.1 204 No Content\na: b\nconnection: close\n\n"))
	answers(t, answered(304, "", false), lined("HTTP/1.1 304 Not Modified\n\n"))
	answers(t, answered(205, "", false), lined("HTTP/1.1 205 Other\ncontent-length: 0\n\n"))
	long := strings.Repeat("long", 50000)
	answers(t, answered(200, long, false), lined("HTTP/1.1 200 OK\ncontent-length: 200000\n\n")+long)
}

func TestEachStatus(t *testing.T) { // X6: 200 to 599
	for _, status := range []int{math.MinInt, -200, -1, 0, 1, 20, 100, 101, 199, 600, 601, 999, 1200, 2000, 1 << 32, 1<<32 + 200, math.MaxInt} {
		answersNot(t, answered(status, "", false), api.ErrRequest)
	}
	for status := 200; status <= 599; status++ {
		length := "content-length: 0\r\n"
		if status == 204 || status == 304 {
			length = ""
			answersNot(t, answered(status, "x", false), api.ErrRequest)
		} else {
			answers(t, answered(status, "x", false), "HTTP/1.1 "+strconv.Itoa(status)+" "+Reason(status)+"\r\ncontent-length: 1\r\n\r\nx")
		}
		answers(t, answered(status, "", false), "HTTP/1.1 "+strconv.Itoa(status)+" "+Reason(status)+"\r\n"+length+"\r\n")
	}
}

func TestReason(t *testing.T) { // X6: each, and Other
	words := map[int]string{200: "OK", 201: "Created", 204: "No Content", 304: "Not Modified", 400: "Bad Request", 401: "Unauthorized", 403: "Forbidden", 404: "Not Found", 405: "Method Not Allowed", 408: "Request Timeout", 409: "Conflict", 410: "Gone", 411: "Length Required", 413: "Content Too Large", 414: "URI Too Long", 415: "Unsupported Media Type", 422: "Unprocessable Content", 429: "Too Many Requests", 431: "Request Header Fields Too Large", 500: "Internal Server Error", 501: "Not Implemented", 503: "Service Unavailable", 505: "HTTP Version Not Supported", 507: "Insufficient Storage"}
	for status := -1000; status < 3000; status++ {
		want, ok := words[status]
		if !ok {
			want = "Other"
		}
		if got := Reason(status); got != want {
			t.Errorf("Reason(%d): %q, want %q", status, got, want)
		}
	}
	for _, status := range []int{math.MinInt, math.MaxInt, 1<<32 + 200} {
		if got := Reason(status); got != "Other" {
			t.Errorf("Reason(%d): %q", status, got)
		}
	}
}

func TestWhatMayNotBePrinted(t *testing.T) { // X5, X6: each byte in each part
	for c := range 256 {
		one := string([]byte{byte(c)})
		isToken := strings.Contains(tokenSet, one)
		isSmall := isToken && !strings.Contains(greatSet, one)
		isText := c == 9 || 32 <= c && c <= 126 || c >= 128
		for _, s := range []string{one, one + "a", "a" + one, "a" + one + "a"} {
			want := map[bool]api.Errno{true: api.OK, false: api.ErrRequest}
			if _, errno := PrintRequest(asked(s, "/", "", false)); errno != want[isToken] {
				t.Errorf("X5: the method %q: %d", s, errno)
			}
			if _, errno := PrintRequest(asked("G", "/"+s, "", false)); errno != want[33 <= c && c <= 126] {
				t.Errorf("X5: the target %q: %d", "/"+s, errno)
			}
			isValue := isText && (c != 9 && c != 32 || s == "a"+one+"a")
			for _, behind := range []bool{false, true} { // it stands first, or behind another
				name, value := []string{s, "x"}, []string{"x", s}
				if behind {
					name, value = append([]string{"y", "z"}, name...), append([]string{"y", "z"}, value...)
				}
				_, errno := PrintRequest(asked("G", "/", "", false, name...))
				_, errno2 := PrintResponse(answered(200, "", false, name...))
				if errno != want[isSmall] || errno2 != want[isSmall] {
					t.Errorf("X5, X6: the name %q: %d, %d", s, errno, errno2)
				}
				_, errno = PrintRequest(asked("G", "/", "", false, value...))
				_, errno2 = PrintResponse(answered(200, "", false, value...))
				if errno != want[isValue] || errno2 != want[isValue] {
					t.Errorf("X5, X6: the value %q: %d, %d", s, errno, errno2)
				}
			}
		}
	}
}

func TestErrorsOfPrintRequest(t *testing.T) { // X5
	printsNot(t, api.Request{}, api.ErrRequest)
	for _, r := range []api.Request{
		asked("", "/", "", false), asked("a b", "/", "", false), asked("G\r\n", "/", "", false),
		asked("G", "", "", false), asked("G", "a", "", false), asked("G", "*", "", false), asked("G", "a/", "", false), asked("G", " /", "", false), asked("G", "/ ", "", false), asked("G", "/ HTTP/1.1", "", false), asked("G", "/\r\na: b", "", false), asked("G", "/é", "", false),
		asked("G", "/", "", false, "", "x"), asked("G", "/", "", false, "Host", "x"), asked("G", "/", "", false, "a", " x"), asked("G", "/", "", false, "a", "x "), asked("G", "/", "", false, "a", "\tx"), asked("G", "/", "", false, "a", "x\t"), asked("G", "/", "", false, "a", " "), asked("G", "/", "", false, "a", "x\r\ny: z"), asked("G", "/", "", false, "a", "x\ny"), asked("G", "/", "", false, "a:", "x"),
		asked("G", "/", "", false, "content-length", "0"), asked("G", "/", "x", false, "content-length", "1"), asked("G", "/", "", false, "transfer-encoding", "chunked"), asked("G", "/", "", false, "connection", "close"), asked("G", "/", "", true, "connection", "close"), asked("G", "/", "", false, "a", "b", "connection", ""),
		asked("G", "/", "", false, "host", "a", "host", "a"), asked("G", "/", "", false, "host", "a", "b", "c", "host", ""), asked("G", "/", "", false, "host", "a", "host", "a", "host", "a"),
	} {
		printsNot(t, r, api.ErrRequest)
		r.Body = make([]byte, 6001) // it is named first
		printsNot(t, r, api.ErrRequest)
		for range 33 {
			r.Headers = append(r.Headers, [2]string{"x", "y"})
		}
		printsNot(t, r, api.ErrRequest)
	}
	for _, name := range []string{"content-lengths", "transfer_encoding", "connections", "x-connection", "keep-alive", "te"} {
		prints(t, asked("G", "/", "", false, name, "close"), lined("G / HTTP/1.1\nhost: home\n"+name+": close\n\n"))
	}
}

func TestBoundsOfPrintRequest(t *testing.T) { // X5: MaxTarget, MaxBody, MaxHeaders, MaxHead, at and one above them
	target := "/" + strings.Repeat("t", 511)
	prints(t, asked("G", target, "", false), lined("G "+target+" HTTP/1.1\nhost: home\n\n"))
	printsNot(t, asked("G", target+"t", "", false), api.ErrRequest)
	body := strings.Repeat("b", 6000)
	prints(t, asked("G", "/", body, false), lined("G / HTTP/1.1\nhost: home\ncontent-length: 6000\n\n")+body)
	printsNot(t, asked("G", "/", body+"b", false), api.ErrBody)
	printsNot(t, asked("G", "/", body+"b", false, "a", strings.Repeat("v", 3000)), api.ErrBody)
	for n := 27; n <= 40; n++ {
		for _, body := range []string{"", "b"} {
			for _, last := range []bool{false, true} {
				for _, host := range []bool{false, true} {
					r := asked("G", "/", body, last)
					for range n {
						r.Headers = append(r.Headers, [2]string{"a", ""})
					}
					all := n + len(body) + 1
					if host {
						r.Headers[n/2][0] = "host"
						all--
					}
					if last {
						all++
					}
					want := api.OK
					if all > 32 {
						want = api.ErrHead
					}
					if b, errno := PrintRequest(r); errno != want || (b == nil) != (want != api.OK) {
						t.Errorf("X5: %d headers, the body %q, last %v, host %v: %d", n, body, last, host, errno)
					}
				}
			}
		}
	}
	for _, r := range []api.Request{asked("G", "/", "", false, "a", ""), asked("GET", "/x", "body", true, "a", ""), asked("G", "/", "", false, "host", "", "a", "")} {
		b, _ := PrintRequest(r)
		i := len(r.Headers) - 1
		r.Headers[i][1] = strings.Repeat("v", 2048-len(b)+len(r.Body))
		if b, errno := PrintRequest(r); len(b) != 2048+len(r.Body) || errno != api.OK {
			t.Errorf("X5: a head of 2048 bytes: %d", errno)
		}
		r.Headers[i][1] += "v"
		printsNot(t, r, api.ErrHead)
	}
	printsNot(t, asked(strings.Repeat("G", 3000), "/", "", false), api.ErrHead)
	printsNot(t, asked("G", "/", "", false, strings.Repeat("n", 3000), ""), api.ErrHead)
}

func TestErrorsOfPrintResponse(t *testing.T) { // X6
	answersNot(t, api.Response{}, api.ErrRequest)
	for _, headers := range [][]string{{"", "x"}, {"A", ""}, {"a", " x"}, {"a", "x\r\n"}, {"content-length", "0"}, {"transfer-encoding", "chunked"}, {"connection", "close"}, {"a", "b", "connection", "close"}, {"host", "a", "host", "\x00"}} {
		answersNot(t, answered(200, "", false, headers...), api.ErrRequest)
		many := slices.Concat(slices.Repeat([]string{"x", "y"}, 40), headers)
		answersNot(t, answered(200, "", false, many...), api.ErrRequest) // ahead of ErrHead
	}
	many := slices.Repeat([]string{"x", "y"}, 40)
	answersNot(t, answered(600, "", false, many...), api.ErrRequest)
	answersNot(t, answered(204, "x", false, many...), api.ErrRequest)
	for _, c := range []struct {
		status, most int
		last         bool
	}{{200, 31, false}, {200, 30, true}, {204, 32, false}, {204, 31, true}, {304, 32, false}, {500, 31, false}} {
		if b, errno := PrintResponse(answered(c.status, "", c.last, many[:2*c.most]...)); b == nil || errno != api.OK {
			t.Errorf("X6: %d and %d headers: %d", c.status, c.most, errno)
		}
		answersNot(t, answered(c.status, "", c.last, many[:2*c.most+2]...), api.ErrHead)
	}
	for _, r := range []api.Response{answered(200, "", false, "a", ""), answered(204, "", true, "a", ""), answered(431, strings.Repeat("b", 9000), true, "a", "")} {
		b, _ := PrintResponse(r)
		r.Headers[0][1] = strings.Repeat("v", 2048-len(b)+len(r.Body))
		if b, errno := PrintResponse(r); len(b) != 2048+len(r.Body) || errno != api.OK {
			t.Errorf("X6: a head of 2048 bytes: %d", errno)
		}
		r.Headers[0][1] += "v"
		answersNot(t, r, api.ErrHead)
	}
}

// chanceText is up to n bytes of a set.
func chanceText(rnd *rand.Rand, set string, n int) string {
	b := make([]byte, rnd.Intn(n+1))
	for i := range b {
		b[i] = set[rnd.Intn(len(set))]
	}
	return string(b)
}

// chancePrintable is a message's headers that may be written.
func chancePrintable(rnd *rand.Rand) [][2]string {
	var headers [][2]string
	for range rnd.Intn(8) {
		name := oneOf(rnd, "x", "accept", chanceText(rnd, smallSet+"-!09", 9)+"z")
		headers = append(headers, [2]string{name, strings.Trim(chanceText(rnd, " \tab,;:\xff\"", 20), " \t")})
	}
	return headers
}

func TestWhatIsPrintedIsRead(t *testing.T) { // what follows: the first three
	rnd := rand.New(rand.NewSource(11))
	all := make([]byte, 256)
	for i := range all {
		all[i] = byte(i)
	}
	for range 3000 {
		var text string
		var wants []api.Request
		over := false
		for range 1 + rnd.Intn(4) {
			r := api.Request{Method: chanceText(rnd, tokenSet, 6) + "M", Target: "/" + chanceText(rnd, "/?&%abc~!", 20), Headers: chancePrintable(rnd), Body: []byte(chanceText(rnd, string(all), 50)), Last: rnd.Intn(5) == 0}
			written := slices.Clone(r.Headers)
			if rnd.Intn(2) > 0 {
				r.Headers = slices.Insert(r.Headers, rnd.Intn(len(r.Headers)+1), [2]string{"host", "h"})
				written = slices.Clone(r.Headers)
			} else {
				written = slices.Insert(written, 0, [2]string{"host", "home"})
			}
			b, errno := PrintRequest(r)
			if errno != api.OK {
				t.Fatalf("X5: PrintRequest(%+v): %d", r, errno)
			}
			text += string(b)
			if len(r.Body) > 0 {
				written = append(written, [2]string{"content-length", strconv.Itoa(len(r.Body))})
			}
			if r.Last {
				written = append(written, [2]string{"connection", "close"})
			}
			r.Headers = written
			if !over {
				wants = append(wants, r)
			}
			over = over || r.Last
		}
		reads(t, text, 0, wants...)
	}
	for range 3000 {
		r := api.Response{Status: 200 + rnd.Intn(400), Headers: chancePrintable(rnd), Body: []byte(chanceText(rnd, string(all), 50)), Last: rnd.Intn(2) > 0}
		if rnd.Intn(10) == 0 {
			r.Status, r.Body = 204+100*rnd.Intn(2), nil
		}
		b, errno := PrintResponse(r)
		if errno != api.OK {
			if r.Status == 204 || r.Status == 304 {
				continue
			}
			t.Fatalf("X6: PrintResponse(%+v): %d", r, errno)
		}
		if r.Status != 204 && r.Status != 304 {
			r.Headers = append(r.Headers, [2]string{"content-length", strconv.Itoa(len(r.Body))})
		}
		if r.Last {
			r.Headers = append(r.Headers, [2]string{"connection", "close"})
		}
		behind := chanceText(rnd, string(all), 9)
		got, n, err := ParseResponse([]byte(string(b) + behind))
		if !sameResponse(got, r) || n != len(b) || err != nil {
			t.Fatalf("X7: ParseResponse(%q): %+v, %d, %v; want %+v", b, got, n, err, r)
		}
	}
}
