package web

import (
	"bufio"
	"bytes"
	"io"
	"math/rand"
	"net/http"
	"net/url"
	"slices"
	"strings"
	"testing"

	"tocsin/api"
)

// The library's own reading and writing of messages, as another view of the same bytes.

func TestLibraryReadsRequests(t *testing.T) { // X5
	rnd := rand.New(rand.NewSource(21))
	for range 500 {
		r := api.Request{Method: oneOf(rnd, "GET", "PUT", "POST", "X-Y"), Target: oneOf(rnd, "/", "/v1/rules?a=b", "/%21x"), Headers: [][2]string{{"x-a", oneOf(rnd, "", "1", "a \t b")}, {"x-b", "c"}}, Body: []byte(chanceText(rnd, "ab\r\n\x00\xff", 30)), Last: rnd.Intn(2) > 0}
		b, errno := PrintRequest(r)
		got, err := http.ReadRequest(bufio.NewReader(bytes.NewReader(b)))
		if errno != api.OK || err != nil {
			t.Fatalf("%q: %d, %v", b, errno, err)
		}
		body, err := io.ReadAll(got.Body)
		if got.Method != r.Method || got.RequestURI != r.Target || got.Host != "home" || got.Close != r.Last || string(body) != string(r.Body) || err != nil {
			t.Errorf("%q: %+v, %q, %v", b, got, body, err)
		}
		for _, h := range r.Headers {
			if got.Header.Get(h[0]) != h[1] {
				t.Errorf("%q: %+v", b, got.Header)
			}
		}
	}
}

func TestLibraryReadsResponses(t *testing.T) { // X6
	rnd := rand.New(rand.NewSource(22))
	for range 500 {
		r := api.Response{Status: 200 + rnd.Intn(400), Headers: [][2]string{{"x-a", "1"}}, Last: rnd.Intn(2) > 0}
		if r.Status != 204 && r.Status != 304 {
			r.Body = []byte(chanceText(rnd, "ab\r\n\x00\xff", 30))
		}
		b, errno := PrintResponse(r)
		got, err := http.ReadResponse(bufio.NewReader(bytes.NewReader(b)), nil)
		if errno != api.OK || err != nil {
			t.Fatalf("%q: %d, %v", b, errno, err)
		}
		body, err := io.ReadAll(got.Body)
		if got.StatusCode != r.Status || got.Close != r.Last || string(body) != string(r.Body) || got.Header.Get("x-a") != "1" || err != nil {
			t.Errorf("%q: %+v, %q, %v", b, got, body, err)
		}
	}
}

// unknown hides how long what it reads is, so that it is written in chunks.
type unknown struct{ io.Reader }

func TestRequestsOfLibrary(t *testing.T) { // X1, X2
	rnd := rand.New(rand.NewSource(23))
	for range 500 {
		body := chanceText(rnd, "ab\r\n\x00\xff", 300)
		var from io.Reader = strings.NewReader(body)
		chunked := rnd.Intn(2) > 0
		if chunked {
			from = unknown{from}
		}
		q, err := http.NewRequest("POST", "http://home/v1/events?x=y", from)
		if err != nil {
			t.Fatal(err)
		}
		q.Close = rnd.Intn(2) > 0
		if chunked && rnd.Intn(2) > 0 {
			q.Trailer = http.Header{"X-Trailer": {"a"}}
		}
		var b bytes.Buffer
		if err := q.Write(&b); err != nil {
			t.Fatal(err)
		}
		p := NewParser()
		var got []api.Request
		for piece := range slices.Chunk(b.Bytes(), 1+rnd.Intn(50)) {
			list, err := p.Feed(piece)
			if err != nil {
				t.Fatalf("%q: %v", b.Bytes(), err)
			}
			got = append(got, list...)
		}
		if len(got) != 1 || got[0].Method != "POST" || got[0].Target != "/v1/events?x=y" || got[0].Last != q.Close || string(got[0].Body) != body || !slices.Contains(got[0].Headers, [2]string{"host", "home"}) || p.Waits() != 0 {
			t.Fatalf("%q: %+v, %d wait", b.Bytes(), got, p.Waits())
		}
	}
}

func TestResponsesOfLibrary(t *testing.T) { // X7
	rnd := rand.New(rand.NewSource(24))
	for range 500 {
		body := chanceText(rnd, "ab\r\n\x00\xff", 9000)
		a := &http.Response{StatusCode: 200, ProtoMajor: 1, ProtoMinor: 1, Request: &http.Request{Method: "GET", URL: &url.URL{}}, Header: http.Header{"X-A": {"1"}}, Body: io.NopCloser(strings.NewReader(body)), ContentLength: int64(len(body)), Close: rnd.Intn(2) > 0}
		if rnd.Intn(2) > 0 {
			a.ContentLength, a.TransferEncoding, a.Body = -1, []string{"chunked"}, io.NopCloser(unknown{strings.NewReader(body)})
		}
		var b bytes.Buffer
		if err := a.Write(&b); err != nil {
			t.Fatal(err)
		}
		size := b.Len()
		got, n, err := ParseResponse(append(b.Bytes(), "more"...))
		if got.Status != 200 || got.Last != a.Close || string(got.Body) != body || n != size || !slices.Contains(got.Headers, [2]string{"x-a", "1"}) || err != nil {
			t.Fatalf("%.300q: %+v, %d, %v", b.Bytes(), got, n, err)
		}
	}
}
