package web

import (
	"strings"

	"tocsin/api"
)

// headerLine begins a line of the head, or of the trailers.
func (m *message) headerLine() state { return m.part((*message).atLine) }

// atLine takes the first byte of a header line, or of the empty one.
func (m *message) atLine(c byte) state {
	if c == cr {
		return state{take: (*message).lineFeed, then: (*message).emptyLineEnds}
	}
	if m.lines == api.MaxHeaders {
		return m.fail(m.at, api.ErrHead)
	}
	m.lines++
	return m.inName(c)
}

func (m *message) inName(c byte) state {
	switch {
	case isTokenByte(c):
		m.keep(small(c))
		return state{take: (*message).inName}
	case c == ':' && m.at > m.from:
		m.name = string(m.word)
		return m.part((*message).inValue)
	}
	return m.refuse()
}

// inValue takes a value, and the blanks around it; those behind it are known as such when the line ends.
func (m *message) inValue(c byte) state {
	switch {
	case c == cr:
		return state{take: (*message).lineFeed, then: (*message).headerEnds}
	case isBlank(c) && len(m.word) == 0:
		return m.state
	case isTextByte(c):
		m.keep(c)
		return m.state
	}
	return m.refuse()
}

func (m *message) headerEnds() state {
	if !m.trailers {
		m.headers = append(m.headers, [2]string{m.name, strings.TrimRight(string(m.word), blanks)})
	}
	return m.headerLine()
}

func (m *message) emptyLineEnds() state {
	if m.trailers {
		return state{}
	}
	m.bound, m.word, m.name = unbound, nil, ""
	return m.headEnds()
}

// values are those of the headers of a name.
func (m *message) values(name string) []string {
	var found []string
	for _, h := range m.headers {
		if h[0] == name {
			found = append(found, h[1])
		}
	}
	return found
}
