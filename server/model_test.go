package server

import (
	"errors"

	"tocsin/api"
	"tocsin/engine"
	"tocsin/jsonval"
)

// A model reckons what a server answers, and how often it asks its disk: of the journal it knows numbers alone.
type model struct {
	engine        *engine.Engine
	size          int // bytes of an area
	end           int // how many of them are taken
	writes, syncs int // so far
	smaller       int // how often the journal was made small
	refused       int // how often there was no room
}

func newModel(blocks int) *model { return &model{engine: engine.New(), size: 64 * ((blocks - 2) / 2)} }

// fits tells whether a record of so many bytes has room: it has seven more ahead of it.
func (m *model) fits(bytes int) bool { return m.end+7+bytes <= m.size }

// blocksOf is how many blocks are written from a place up to another one.
func (m *model) blocksOf(from, to int) int { return min(to, m.size-1)/64 - from/64 + 1 }

func (m *model) append(bytes int) {
	m.writes += m.blocksOf(m.end, m.end+7+bytes) + 1
	m.syncs += 2
	m.end += 7 + bytes
}

func (m *model) compact(bytes int) {
	m.writes += m.blocksOf(0, bytes) + 2
	m.syncs += 3
	m.end = bytes
	m.smaller++
}

// do answers as a server does that was not closed, and has not fallen.
func (m *model) do(raw string) string {
	v, err := jsonval.Parse([]byte(raw))
	if err != nil {
		var fault *api.Fault
		errors.As(err, &fault)
		return wrongAt(fault.At, int(fault.Err))
	}
	if !engine.Changes(v) {
		return m.engine.Do(v).Print()
	}
	record := len(v.Print())
	if !m.fits(record) {
		if saved := len(m.engine.Save()); saved <= m.size {
			m.compact(saved)
		}
	}
	if !m.fits(record) {
		m.refused++
		return full
	}
	m.append(record)
	return m.engine.Do(v).Print()
}

// value reads a value that is one.
func value(s string) *jsonval.Value {
	v, err := jsonval.Parse([]byte(s))
	if err != nil {
		panic(s + ": " + err.Error())
	}
	return v
}
