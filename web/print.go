package web

import (
	"slices"
	"strconv"

	"tocsin/api"
)

const nameEnd = ": " // between a header's name and its value

// PrintRequest writes a request, in its one way (X5).
func PrintRequest(r api.Request) ([]byte, api.Errno) {
	hosts := countOf(r.Headers, "host")
	if !isToken(r.Method) || !isTarget(r.Target) || !mayStand(r.Headers) || hosts > 1 {
		return nil, api.ErrRequest
	}
	if len(r.Body) > api.MaxBody {
		return nil, api.ErrBody
	}
	var first, length [][2]string
	if hosts == 0 {
		first = [][2]string{{"host", api.Home}}
	}
	if len(r.Body) > 0 {
		length = lengthOf(r.Body)
	}
	line := r.Method + " " + r.Target + " " + newer
	return printed(line, slices.Concat(first, r.Headers, length, lastOf(r.Last)), r.Body)
}

// PrintResponse writes a response, in its one way (X6).
func PrintResponse(r api.Response) ([]byte, api.Errno) {
	bare := hasNoBody(r.Status)
	if !isStatus(r.Status) || bare && len(r.Body) > 0 || !mayStand(r.Headers) {
		return nil, api.ErrRequest
	}
	var length [][2]string
	if !bare {
		length = lengthOf(r.Body)
	}
	line := newer + " " + strconv.Itoa(r.Status) + " " + Reason(r.Status)
	return printed(line, slices.Concat(r.Headers, length, lastOf(r.Last)), r.Body)
}

// lengthOf is the header that tells how long a body is.
func lengthOf(body []byte) [][2]string {
	return [][2]string{{"content-length", strconv.Itoa(len(body))}}
}

// lastOf is the header that tells that the connection ends; none, if it does not.
func lastOf(last bool) [][2]string {
	if !last {
		return nil
	}
	return [][2]string{{"connection", "close"}}
}

func countOf(headers [][2]string, name string) int {
	n := 0
	for _, h := range headers {
		if h[0] == name {
			n++
		}
	}
	return n
}

// mayStand tells whether headers may be written: the program's own are not among them.
func mayStand(headers [][2]string) bool {
	for _, h := range headers {
		switch h[0] {
		case "content-length", "transfer-encoding", "connection":
			return false
		}
		if !isToken(h[0]) || smallText(h[0]) != h[0] || !isValue(h[1]) {
			return false
		}
	}
	return true
}

// printed is a message of a first line, headers and a body, unless its head is too long.
func printed(line string, headers [][2]string, body []byte) ([]byte, api.Errno) {
	if len(headers) > api.MaxHeaders || headSize(line, headers) > api.MaxHead {
		return nil, api.ErrHead
	}
	b := append([]byte(line), crlf...)
	for _, h := range headers {
		b = append(b, h[0]+nameEnd+h[1]+crlf...)
	}
	b = append(b, crlf...)
	return append(b, body...), api.OK
}

// headSize is how many bytes a head would have: it is asked ahead of writing, since texts may be very long.
func headSize(line string, headers [][2]string) int {
	n := len(line) + 2*len(crlf)
	for _, h := range headers {
		n += len(h[0]) + len(nameEnd) + len(h[1]) + len(crlf)
	}
	return n
}
