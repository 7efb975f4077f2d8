package web

import (
	"slices"
	"strings"
	"testing"

	"tocsin/api"
)

// spoil writes into a list's items and into all its spare room.
func spoil[T any](list []T, x T) {
	list = list[:cap(list)]
	for i := range list {
		list[i] = x
	}
}

var spoiltHeader = [2]string{"spoilt", "spoilt"}

func spoilRequest(r api.Request) {
	spoil(r.Headers, spoiltHeader)
	spoil(r.Body, '#')
}

func TestWhatComesOutIsItsOwners(t *testing.T) { // P3: Feed
	const one = "PUT /1 HTTP/1.1\r\nhost:x\r\na:b\r\ncontent-length:5\r\n\r\nhello"
	const two = "PUT /2 HTTP/1.1\r\nhost:y\r\ntransfer-encoding:chunked\r\n\r\n3\r\nabc\r\n2\r\nde\r\n0\r\n\r\n"
	wantOne := asked("PUT", "/1", "hello", false, "host", "x", "a", "b", "content-length", "5")
	wantTwo := asked("PUT", "/2", "abcde", false, "host", "y", "transfer-encoding", "chunked")
	for cut := range len(two) {
		p := NewParser()
		b := []byte(one + two + one + two[:cut])
		first, err := p.Feed(b)
		clear(b)
		if err != nil || len(first) != 3 || !sameRequest(first[0], wantOne) || !sameRequest(first[1], wantTwo) || !sameRequest(first[2], wantOne) {
			t.Fatalf("%+v, %v", first, err)
		}
		spoilRequest(first[1]) // it shares nothing with the others
		if !sameRequest(first[0], wantOne) || !sameRequest(first[2], wantOne) {
			t.Fatalf("the requests of one call share memory: %+v", first)
		}
		spoilRequest(first[0])
		if !sameRequest(first[2], wantOne) {
			t.Fatalf("the requests of one call share memory: %+v", first)
		}
		spoilRequest(first[2])
		spoil(first, api.Request{Method: "SPOILT"})
		second, err := p.Feed([]byte(two[cut:] + one))
		if err != nil || len(second) != 2 || !sameRequest(second[0], wantTwo) || !sameRequest(second[1], wantOne) {
			t.Fatalf("cut at %d: %+v, %v", cut, second, err)
		}
	}
}

func TestWhatIsHandedInStays(t *testing.T) { // P3: the lists and the room behind them
	room := slices.Repeat([][2]string{{"a", "b"}}, 8)
	body := []byte("body, and more")
	wantRoom, wantBody := slices.Clone(room), slices.Clone(body)
	r := api.Request{Method: "GET", Target: "/", Headers: room[:3], Body: body[:4], Last: true}
	b, errno := PrintRequest(r)
	want := lined("GET / HTTP/1.1\nhost: home\na: b\na: b\na: b\ncontent-length: 4\nconnection: close\n\nbody")
	if string(b) != want || errno != api.OK {
		t.Fatalf("%q, %d", b, errno)
	}
	a, errno := PrintResponse(api.Response{Status: 200, Headers: room[:3], Body: body[:4], Last: true})
	wantAnswer := lined("HTTP/1.1 200 OK\na: b\na: b\na: b\ncontent-length: 4\nconnection: close\n\nbody")
	if string(a) != wantAnswer || errno != api.OK {
		t.Fatalf("%q, %d", a, errno)
	}
	spoil(b, '#')
	if !slices.Equal(room, wantRoom) || string(body) != string(wantBody) || string(a) != wantAnswer {
		t.Errorf("what was handed in has become another: %q, %q", room, body)
	}
	spoil(a, '#')
	if b, _ := PrintRequest(r); string(b) != want || !slices.Equal(room, wantRoom) || string(body) != string(wantBody) {
		t.Errorf("what was handed in has become another: %q, %q", room, body)
	}
}

func TestResponseIsItsOwners(t *testing.T) { // P3: ParseResponse
	s := lined("HTTP/1.1 200 OK\na:b\ncontent-length:5\n\nhello") + strings.Repeat("more", 10)
	b := []byte(s)
	one, _, _ := ParseResponse(b)
	two, _, _ := ParseResponse(b)
	spoil(one.Headers, spoiltHeader)
	spoil(one.Body, '#')
	want := answered(200, "hello", false, "a", "b", "content-length", "5")
	if string(b) != s || !sameResponse(two, want) {
		t.Errorf("%q, %+v", b, two)
	}
	clear(b)
	if !sameResponse(two, want) {
		t.Errorf("it shares memory with what was handed in: %+v", two)
	}
}

func TestNothingMoreIsKept(t *testing.T) { // what no promise needs is let go
	isEmpty := func(m message) bool {
		return m.state.take == nil && m.state.then == nil && m.word == nil && m.method == "" && m.target == "" && m.name == "" && m.headers == nil && m.body == nil
	}
	const whole = "PUT /1 HTTP/1.1\r\nhost:x\r\nconnection:close\r\ncontent-length:5\r\n\r\nhello"
	p := NewParser()
	p.Feed([]byte(whole + whole))
	if !isEmpty(p.now) {
		t.Errorf("behind a request with Last: %+v", p.now)
	}
	for _, s := range []string{"GET / HTTP/1.1\r\nhost:x\r\na:b\x00", chunkedHead + "3\r\nabc\r\n1771\r\n", "GET /long HTTP/1.1\r\na:b\r\n\r\n", strings.Repeat("M", 3000)} {
		p = NewParser()
		if _, err := p.Feed([]byte(s)); err == nil || !isEmpty(p.now) {
			t.Errorf("behind a fault of %.40q: %v, %+v", s, err, p.now)
		}
	}
	p = NewParser()
	p.Feed([]byte(chunkedHead + "1;" + strings.Repeat("x", 40) + "\r\na\r\n0\r\nname:value\r\nlong:" + strings.Repeat("v", 1000)))
	if len(p.now.word) != 0 || p.now.name != "" || len(p.now.headers) != 2 {
		t.Errorf("in the trailers: %+v", p.now)
	}
}
