package web

import "tocsin/api"

// A message is a request or a response, as far as its bytes have come.
type message struct {
	state state // what takes the next byte, but for those of the body

	begin int    // the place of its first byte
	at    int    // the place of the next byte, or of the one that is taken now
	bound int    // the place to which the head, or the trailers, may not come; elsewhere unbound
	from  int    // the place where the part that is read now begins
	word  []byte // what is kept of that part

	method, target string
	status         int  // of a request 0
	newer          bool // the version is 1.1
	lines          int  // headers, or trailers, that have begun
	name           string
	headers        [][2]string
	trailers       bool // they are read now, and nothing of them is kept
	last           bool

	most int64 // bytes that the body may have
	size int64 // what the size line says; above most it need not be right
	left int   // bytes of the body, or of the chunk, that are to come ahead of the state's
	body []byte

	fault api.Fault
}

// A state is what a message does with its next byte.
type state struct {
	take func(m *message, c byte) state // gives the state for the byte behind; the empty one: no byte is taken
	then func(m *message) state         // gives the state behind what take brings to its end, where several things may follow
}

// maxAnswer is how many bytes the body of a response may have.
const maxAnswer = 999999999

const unbound = -1

// newRequest is a request that begins at a place.
func newRequest(at int) message {
	return message{state: state{take: (*message).ahead}, begin: at, at: at, bound: unbound, most: api.MaxBody}
}

// newResponse is a response that begins with the first byte.
func newResponse() message {
	return message{state: state{take: (*message).inVersion, then: (*message).statusFollows}, bound: api.MaxHead, most: maxAnswer}
}

// read takes the bytes that belong to the message, and tells how many these are.
func (m *message) read(b []byte) int {
	n := 0
	for n < len(b) && !m.over() {
		if m.left > 0 {
			n += m.fill(b[n:])
			continue
		}
		m.step(b[n])
		n++
	}
	return n
}

// fill takes as many bytes of the body as there are.
func (m *message) fill(b []byte) int {
	n := min(m.left, len(b))
	m.body = append(m.body, b[:n]...)
	m.left -= n
	m.at += n
	return n
}

// step takes a byte that is none of the body.
func (m *message) step(c byte) {
	if m.at == m.bound {
		m.fail(m.at, api.ErrHead)
		return
	}
	m.state = m.state.take(m, c)
	m.at++
}

// over tells whether no byte is taken any more.
func (m *message) over() bool { return m.state.take == nil && m.left == 0 }

// whole tells whether all has come, and nothing was wrong.
func (m *message) whole() bool { return m.over() && m.fault.Err == api.OK }

// fail gives the message up: nothing of it is kept but what is wrong.
func (m *message) fail(at int, errno api.Errno) state {
	*m = message{fault: api.Fault{At: at, Err: errno}}
	return state{}
}

// refuse gives the message up for the byte that is taken now.
func (m *message) refuse() state { return m.fail(m.at, api.ErrRequest) }

// wrong tells the fault, if there is one, in memory of the caller's.
func (m *message) wrong() error {
	if m.fault.Err == api.OK {
		return nil
	}
	fault := m.fault
	return &fault
}

// request is what a whole request says.
func (m *message) request() api.Request {
	return api.Request{Method: m.method, Target: m.target, Headers: m.headers, Body: m.body, Last: m.last}
}

// response is what a whole response says.
func (m *message) response() api.Response {
	return api.Response{Status: m.status, Headers: m.headers, Body: m.body, Last: m.last}
}

// part is the state for a part that begins with the next byte.
func (m *message) part(take func(m *message, c byte) state) state {
	m.from, m.word = m.at+1, m.word[:0]
	return state{take: take}
}

// keep takes a byte of the part that is read now.
func (m *message) keep(c byte) {
	if !m.trailers {
		m.word = append(m.word, c)
	}
}
