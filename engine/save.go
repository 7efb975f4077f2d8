package engine

import (
	"tocsin/api"
	"tocsin/counts"
	"tocsin/pusher"
	"tocsin/room"
	"tocsin/rules"
	"tocsin/wire"
)

// Save writes all that is known (E11).
func (e *Engine) Save() []byte {
	w := wire.NewWriter()
	w.Int(int64(e.time))
	wire.WriteList(w, rising(e.rooms), func(w *wire.Writer, name string) { e.rooms[name].Save(w) })
	wire.WriteList(w, rising(e.people), func(w *wire.Writer, name string) {
		w.Text(name)
		e.people[name].Save(w)
	})
	e.book.Save(w)
	e.post.Save(w)
	return w.Bytes()
}

// Load reads what Save wrote (E11).
func Load(b []byte) (*Engine, api.Errno) {
	r := wire.NewReader(b)
	e := New()
	time := r.Int()
	rooms := wire.ReadList(r, api.MaxRooms, readRoom)
	people := wire.ReadList(r, api.MaxPeople, readPerson)
	book, noBook := counts.Load(r)
	post, noPost := pusher.Load(r)
	if !r.End() || noBook != api.OK || noPost != api.OK || time < 0 || time > api.MaxTime {
		return nil, api.ErrWire
	}
	if !e.takeRooms(rooms) || !e.takePeople(people) {
		return nil, api.ErrWire
	}
	e.time, e.book, e.post = int(time), book, post
	e.seatAll()
	return e, api.OK
}

// readRoom gives nil, if what is read is no room.
func readRoom(r *wire.Reader) *room.Room {
	one, _ := room.Load(r)
	return one
}

// A person is one of the people, as they are written.
type person struct {
	name  string
	rules *rules.Set
}

// readPerson gives a person without rules, if what is read is none.
func readPerson(r *wire.Reader) person {
	p := person{name: r.Text()}
	p.rules, _ = rules.Load(p.name, r)
	return p
}

// takeRooms takes rooms in; false, if there is one that Save would not write there.
func (e *Engine) takeRooms(rooms []*room.Room) bool {
	last := "" // no name is empty
	for _, r := range rooms {
		if r == nil {
			return false
		}
		name := r.Print().Get("id").Text()
		if name <= last {
			return false
		}
		e.rooms[name] = r
		last = name
	}
	return true
}

// takePeople takes people in; false, if there is one whom Save would not write there.
func (e *Engine) takePeople(people []person) bool {
	last := ""
	for _, p := range people {
		if p.rules == nil || !room.Local(p.name) || p.name <= last {
			return false
		}
		e.people[p.name] = p.rules
		last = p.name
	}
	return true
}

// seatAll lays out the rules of all who are in a room.
func (e *Engine) seatAll() {
	for _, r := range e.rooms {
		for _, user := range locals(r) {
			e.seat(user)
		}
	}
}
