package counts

// pages are what users have in one room, by users.
type pages map[string]*page

// A page is what one user has in one room. A user without a mark above 0 and without notes has none there.
type page struct {
	mark       int
	notes      map[int]note // by places; live ones alone
	highlights int          // how many of them have one: counters are asked for with each note
}

type note struct {
	highlight bool
}

// page is the user's page in a room: a new one, if there was none.
func (b *Book) page(user, room string) *page {
	users := b.rooms[room]
	if users == nil {
		users = pages{}
		b.rooms[room] = users
	}
	p := users[user]
	if p == nil {
		p = &page{}
		users[user] = p
	}
	return p
}

// mark is up to where a user has read a room.
func (b *Book) mark(user, room string) int {
	p := b.rooms[room][user]
	if p == nil {
		return 0
	}
	return p.mark
}

// forget takes out all notes of one place, and what is empty then.
func (b *Book) forget(room string, place int) {
	users := b.rooms[room]
	for user, p := range users {
		p.take(place)
		p.tidy()
		if p.mark == 0 && p.notes == nil {
			delete(users, user)
		}
	}
	if len(users) == 0 {
		delete(b.rooms, room)
	}
}

// put lays a note in the place of the one that there was.
func (p *page) put(place int, n note) {
	p.take(place)
	if p.notes == nil {
		p.notes = map[int]note{}
	}
	p.notes[place] = n
	if n.highlight {
		p.highlights++
	}
}

// take takes a note out, if there is one.
func (p *page) take(place int) {
	if p.notes[place].highlight {
		p.highlights--
	}
	delete(p.notes, place)
}

// read moves the mark on to a place, and takes out the notes that are dead by that.
func (p *page) read(place int) {
	p.mark = place
	for at := range p.notes {
		if at <= place {
			p.take(at)
		}
	}
	p.tidy()
}

// tidy gives up a map of no notes: it would keep the room of those that it had.
func (p *page) tidy() {
	if len(p.notes) == 0 {
		p.notes = nil
	}
}
