package web

import "tocsin/api"

const (
	cr   = '\r'
	lf   = '\n'
	crlf = "\r\n"

	older       = "HTTP/1.0"
	newer       = "HTTP/1.1"
	versionForm = "HTTP/0.0" // 0 is any digit
)

// ahead takes the line ends ahead of a request, and the first byte of its head.
func (m *message) ahead(c byte) state {
	if c == cr {
		return state{take: (*message).lineFeed, then: (*message).aheadAgain}
	}
	m.bound = m.at + api.MaxHead
	return m.inMethod(c)
}

func (m *message) aheadAgain() state { return state{take: (*message).ahead} }

func (m *message) inMethod(c byte) state {
	switch {
	case isTokenByte(c):
		m.keep(c)
		return state{take: (*message).inMethod}
	case c == ' ' && len(m.word) > 0:
		m.method = string(m.word)
		return m.part((*message).inTarget)
	}
	return m.refuse()
}

func (m *message) inTarget(c byte) state {
	switch {
	case len(m.word) == 0 && c != '/':
		return m.refuse()
	case c == ' ':
		m.target = string(m.word)
		next := m.part((*message).inVersion)
		next.then = (*message).requestLineEnds
		return next
	case !isTargetByte(c):
		return m.refuse()
	case len(m.word) == api.MaxTarget:
		return m.fail(m.at, api.ErrHead)
	}
	m.keep(c)
	return m.state
}

// inVersion takes the eight bytes of a version.
func (m *message) inVersion(c byte) state {
	want := versionForm[len(m.word)]
	if c != want && (want != '0' || !isDigit(c)) {
		return m.refuse()
	}
	m.keep(c)
	if len(m.word) < len(versionForm) {
		return m.state
	}
	version := string(m.word)
	if version != older && version != newer {
		return m.fail(m.from, api.ErrVersion)
	}
	m.newer = version == newer
	return m.state.then(m)
}

func (m *message) requestLineEnds() state {
	return state{take: (*message).lineEnd, then: (*message).headerLine}
}

func (m *message) statusFollows() state { return state{take: (*message).blankAheadOfStatus} }

func (m *message) blankAheadOfStatus(c byte) state {
	if c != ' ' {
		return m.refuse()
	}
	return m.part((*message).inStatus)
}

// inStatus takes the three digits of a status.
func (m *message) inStatus(c byte) state {
	if !isDigit(c) {
		return m.refuse()
	}
	m.status = m.status*10 + int(c-'0')
	if m.at < m.from+2 {
		return m.state
	}
	if !isStatus(m.status) {
		return m.fail(m.from, api.ErrRequest)
	}
	return state{take: (*message).blankBehindStatus}
}

func (m *message) blankBehindStatus(c byte) state {
	if c != ' ' {
		return m.refuse()
	}
	return state{take: (*message).inReason}
}

// inReason takes what is said of a status in words, and lets it be.
func (m *message) inReason(c byte) state {
	switch {
	case c == cr:
		return state{take: (*message).lineFeed, then: (*message).headerLine}
	case isTextByte(c):
		return m.state
	}
	return m.refuse()
}

// lineEnd takes the CR where there may be nothing else.
func (m *message) lineEnd(c byte) state {
	if c != cr {
		return m.refuse()
	}
	return state{take: (*message).lineFeed, then: m.state.then}
}

// lineFeed takes the LF behind a CR.
func (m *message) lineFeed(c byte) state {
	if c != lf {
		return m.refuse()
	}
	return m.state.then(m)
}
