package counts

import (
	"slices"
	"strings"

	"tocsin/api"
	"tocsin/wire"
)

// A model keeps all that was called and has come to something, and reckons from that anew whenever it is asked (N8).
type model struct {
	log []call
}

// A call is an event, a note, a receipt, a redaction ("redact") or a leave; at is the place of its event.
type call struct {
	kind              string
	user, room, event string
	at                int
	highlight         bool
}

// events are those of the stream, in their order.
func (m *model) events() []call {
	var all []call
	for _, c := range m.log {
		if c.kind == "event" {
			all = append(all, c)
		}
	}
	return all
}

func (m *model) place(room, event string) int {
	for i, e := range m.events() {
		if e.room == room && e.event == event {
			return i + 1
		}
	}
	return 0
}

func (m *model) mark(user, room string) int {
	mark, events := 0, 0
	for _, c := range m.log {
		switch {
		case c.kind == "event":
			events++
		case c.user != user || c.room != room:
		case c.kind == "receipt":
			mark = max(mark, c.at)
		case c.kind == "leave":
			mark = events
		}
	}
	return mark
}

func (m *model) takenBack(at int) bool {
	return slices.ContainsFunc(m.log, func(c call) bool { return c.kind == "redact" && c.at == at })
}

// live are the live notes of a user in a room, by places.
func (m *model) live(user, room string) []call {
	var all []call
	mark := m.mark(user, room)
	for i, e := range m.events() {
		if e.room != room || i+1 <= mark || m.takenBack(i+1) {
			continue
		}
		for _, c := range slices.Backward(m.log) {
			if c.kind == "note" && c.user == user && c.at == i+1 {
				all = append(all, c)
				break
			}
		}
	}
	return all
}

func (m *model) addEvent(room, event string) (int, api.Errno) {
	all := m.events()
	for _, e := range all {
		if e.event == event {
			return 0, api.ErrKnown
		}
	}
	if len(all) >= 5000 {
		return 0, api.ErrStream
	}
	m.log = append(m.log, call{kind: "event", room: room, event: event})
	return len(all) + 1, api.OK
}

func (m *model) addNote(user, room, event string, a api.Actions) api.Errno {
	at := m.place(room, event)
	if at == 0 {
		return api.ErrUnknown
	}
	if !a.Notify {
		return api.ErrArg
	}
	m.log = append(m.log, call{"note", user, room, event, at, a.Highlight})
	return api.OK
}

func (m *model) addReceipt(user, room, event string) bool {
	at := m.place(room, event)
	if at == 0 {
		return false
	}
	before := m.mark(user, room)
	m.log = append(m.log, call{"receipt", user, room, event, at, false})
	return m.mark(user, room) != before
}

func (m *model) addRedact(room, event string) bool {
	at := m.place(room, event)
	if at == 0 || m.takenBack(at) {
		return false
	}
	m.log = append(m.log, call{"redact", "", room, event, at, false})
	return true
}

func (m *model) addLeave(user, room string) {
	m.log = append(m.log, call{kind: "leave", user: user, room: room})
}

func (m *model) counts(user, room string) (int, int) {
	live, loud := m.live(user, room), 0
	for _, n := range live {
		if n.highlight {
			loud++
		}
	}
	return min(len(live), 99), min(loud, 99)
}

// seats are the users, and the rooms, of which anything was said, each in order.
func (m *model) seats() (users, rooms []string) {
	for _, c := range m.log {
		if c.kind == "note" || c.kind == "receipt" || c.kind == "leave" {
			users = append(users, c.user)
		}
		rooms = append(rooms, c.room)
	}
	slices.Sort(users)
	slices.Sort(rooms)
	return slices.Compact(users), slices.Compact(rooms)
}

func (m *model) rotate() int {
	many := 0
	users, rooms := m.seats()
	for _, user := range users {
		for _, room := range rooms {
			many += len(m.live(user, room))
		}
	}
	return many
}

func (m *model) save() string {
	var stream, marks, notes []string
	for i, e := range m.events() {
		stream = append(stream, text(e.room)+text(e.event)+truth(m.takenBack(i+1)))
	}
	users, rooms := m.seats()
	for _, user := range users {
		byPlace := map[int]string{}
		for _, room := range rooms {
			if at := m.mark(user, room); at > 0 {
				marks = append(marks, text(user)+text(room)+number(int64(at)))
			}
			for _, n := range m.live(user, room) {
				byPlace[n.at] = text(user) + number(int64(n.at)) + truth(n.highlight)
			}
		}
		for at := range stream {
			if s, ok := byPlace[at+1]; ok {
				notes = append(notes, s)
			}
		}
	}
	return counted(stream...) + counted(marks...) + counted(notes...)
}

// A sheet is the three lists that stand in bytes.
type sheet struct {
	stream, marks, notes []call
	takenBack            []bool
}

func readSheet(bytes string) (sheet, bool) {
	var s sheet
	r := wire.NewReader([]byte(bytes))
	s.stream = wire.ReadList(r, 5000, func(r *wire.Reader) call {
		c := call{kind: "event", room: r.Text(), event: r.Text()}
		s.takenBack = append(s.takenBack, r.Flag())
		return c
	})
	s.marks = wire.ReadList(r, 1000000, func(r *wire.Reader) call {
		return call{user: r.Text(), room: r.Text(), at: int(r.Int())}
	})
	s.notes = wire.ReadList(r, 1000000, func(r *wire.Reader) call {
		return call{user: r.Text(), at: int(r.Int()), highlight: r.Flag()}
	})
	return s, r.Err() == nil
}

// modelLoad calls what makes a book as the bytes say; they may be read, if that is saved as they are: else there is no such book.
func modelLoad(bytes string) *model {
	s, ok := readSheet(bytes)
	if !ok {
		return nil
	}
	m := &model{}
	for i, e := range s.stream {
		m.addEvent(e.room, e.event)
		for _, c := range s.marks {
			if c.at == i+1 {
				m.addLeave(c.user, c.room)
			}
		}
	}
	for i, back := range s.takenBack {
		if back {
			m.addRedact(s.stream[i].room, s.stream[i].event)
		}
	}
	for _, n := range s.notes {
		if 1 <= n.at && n.at <= len(s.stream) {
			m.addNote(n.user, s.stream[n.at-1].room, s.stream[n.at-1].event, api.Actions{Notify: true, Highlight: n.highlight})
		}
	}
	if !strings.HasPrefix(bytes, m.save()) {
		return nil
	}
	return m
}

// text, number, truth and counted are a text, a number, a truth and a list as they are saved.
func text(s string) string {
	w := wire.NewWriter()
	w.Text(s)
	return string(w.Bytes())
}

func number(n int64) string {
	w := wire.NewWriter()
	w.Int(n)
	return string(w.Bytes())
}

func truth(b bool) string {
	w := wire.NewWriter()
	w.Flag(b)
	return string(w.Bytes())
}

func counted(l ...string) string {
	w := wire.NewWriter()
	wire.WriteList(w, l, func(*wire.Writer, string) {})
	return string(w.Bytes()) + strings.Join(l, "")
}
