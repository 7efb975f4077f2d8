package web

import "tocsin/api"

// maxSizeLine is how many bytes a size line may have ahead of its CR.
const maxSizeLine = 64

// headEnds asks what the head may not say, and begins the body.
func (m *message) headEnds() state {
	size, chunked, errno := m.frame()
	if errno != api.OK {
		return m.fail(m.at+1, errno)
	}
	m.last = m.isLast()
	switch {
	case hasNoBody(m.status):
		return state{}
	case chunked:
		return m.sizeLine()
	}
	m.left = int(size)
	return state{}
}

// frame tells how long the body is, or that it comes in chunks; an error, if the head may not be.
func (m *message) frame() (int64, bool, api.Errno) {
	hosts, codings, lengths := m.values("host"), m.values("transfer-encoding"), m.values("content-length")
	chunked := len(codings) > 0
	switch {
	case m.status == 0 && (len(hosts) > 1 || m.newer && len(hosts) == 0):
		return 0, false, api.ErrRequest
	case chunked && (len(lengths) > 0 || !m.newer):
		return 0, false, api.ErrRequest
	case chunked && (len(codings) > 1 || smallText(codings[0]) != "chunked"):
		return 0, false, api.ErrCoding
	case len(lengths) == 0:
		return 0, chunked, api.OK
	case len(lengths) > 1 || !isNumber(lengths[0]):
		return 0, false, api.ErrRequest
	}
	size := m.numberOf(lengths[0])
	if size > m.most {
		return 0, false, api.ErrBody
	}
	return size, false, api.OK
}

// isLast tells whether the connection ends behind the message.
func (m *message) isLast() bool {
	items := m.values("connection")
	if m.newer {
		return hasItem(items, "close")
	}
	return !hasItem(items, "keep-alive") || hasItem(items, "close")
}

// sizeLine begins the size line of a chunk.
func (m *message) sizeLine() state {
	m.size = 0
	return m.part((*message).inSize)
}

func (m *message) inSize(c byte) state {
	digit := hexDigit(c)
	switch {
	case m.isTooMuch(c):
		return m.fail(m.at, api.ErrHead)
	case digit >= 0:
		m.size = m.grown(m.size, 16, digit)
		return m.state
	case m.at == m.from:
		return m.refuse()
	case c == cr:
		return state{take: (*message).lineFeed, then: (*message).sizeLineEnds}
	case c == ';':
		return state{take: (*message).inExtension}
	}
	return m.refuse()
}

// inExtension takes what stands behind a size, and lets it be.
func (m *message) inExtension(c byte) state {
	switch {
	case m.isTooMuch(c):
		return m.fail(m.at, api.ErrHead)
	case c == cr:
		return state{take: (*message).lineFeed, then: (*message).sizeLineEnds}
	case isTextByte(c):
		return m.state
	}
	return m.refuse()
}

// isTooMuch tells whether a size line, with this byte, is too long.
func (m *message) isTooMuch(c byte) bool { return c != cr && m.at == m.from+maxSizeLine }

func (m *message) sizeLineEnds() state {
	if m.size+int64(len(m.body)) > m.most {
		return m.fail(m.from, api.ErrBody)
	}
	if m.size == 0 {
		m.trailers, m.lines, m.bound = true, 0, m.at+1+api.MaxHead
		return m.headerLine()
	}
	m.left = int(m.size)
	return state{take: (*message).lineEnd, then: (*message).sizeLine}
}

// numberOf is what digits say; above what a body may have, some number that is so, too.
func (m *message) numberOf(digits string) int64 {
	n := int64(0)
	for i := range len(digits) {
		n = m.grown(n, 10, int64(digits[i]-'0'))
	}
	return n
}

// grown is a number with one digit more; a number that is too great stays, so that it never wraps round.
func (m *message) grown(n, base, digit int64) int64 {
	if n > m.most {
		return n
	}
	return n*base + digit
}
