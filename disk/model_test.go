package disk

import (
	"strings"

	"tocsin/api"
)

// model is a disk in the words of the document: texts of 64 bytes, and a row of writes that is gone through from its end.
type model struct {
	lasting []string
	blocks  []int    // of the writes
	texts   []string // of the writes
	off     bool
	fuse    int // below 0: not set
	crash   api.Crash
	wrote   int
	synced  int
	falls   int
}

func newModel(blocks int) *model {
	m := &model{fuse: -1}
	for range blocks {
		m.lasting = append(m.lasting, filled(""))
	}
	return m
}

// filled is a text with as many noughts behind it as make a block.
func filled(text string) string { return text + strings.Repeat("\x00", api.BlockSize-len(text)) }

func (m *model) copied() *model {
	o := *m
	o.lasting = append([]string{}, m.lasting...)
	o.blocks = append([]int{}, m.blocks...)
	o.texts = append([]string{}, m.texts...)
	return &o
}

func (m *model) read(i int) (string, api.Errno) {
	switch {
	case m.off:
		return "", api.ErrDead
	case i < 0, i >= len(m.lasting):
		return "", api.ErrBlock
	}
	for k := len(m.blocks) - 1; k >= 0; k-- {
		if m.blocks[k] == i {
			return m.texts[k], api.OK
		}
	}
	return m.lasting[i], api.OK
}

func (m *model) write(i int, text string) api.Errno {
	switch {
	case m.off:
		return api.ErrDead
	case i < 0, i >= len(m.lasting), len(text) > api.BlockSize:
		return api.ErrBlock
	}
	m.blocks = append(m.blocks, i)
	m.texts = append(m.texts, filled(text))
	switch {
	case m.fuse == 0:
		m.fail(m.crash)
		return api.ErrDead
	case m.fuse > 0:
		m.fuse--
	}
	m.wrote++
	return api.OK
}

func (m *model) sync() api.Errno {
	switch {
	case m.off:
		return api.ErrDead
	case m.fuse == 0:
		m.fail(m.crash)
		return api.ErrDead
	}
	for k, i := range m.blocks {
		m.lasting[i] = m.texts[k]
	}
	m.blocks, m.texts = nil, nil
	m.synced++
	return api.OK
}

func (m *model) fail(c api.Crash) {
	for k, i := range m.blocks {
		switch {
		case k < c.Keep:
			m.lasting[i] = m.texts[k]
		case k == c.Keep, k == 0: // the first one that is not kept
			torn := 0
			for torn < api.BlockSize && torn < c.Torn {
				torn++
			}
			m.lasting[i] = m.texts[k][:torn] + m.lasting[i][torn:]
		}
	}
	m.blocks, m.texts = nil, nil
	m.fuse = -1
	m.off = true
	m.falls++
}

func (m *model) setFuse(writes int, c api.Crash) api.Errno {
	switch {
	case m.off:
		return api.ErrDead
	case writes < 0:
		return api.ErrArg
	}
	m.fuse, m.crash = writes, c
	return api.OK
}

func (m *model) crashNow(c api.Crash) (errno api.Errno) {
	switch {
	case m.off:
		errno = api.ErrDead
	default:
		m.fail(c)
	}
	return
}

func (m *model) restart() { m.off, m.fuse = false, -1 }
