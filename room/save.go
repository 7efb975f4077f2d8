package room

import (
	"slices"

	"tocsin/api"
	"tocsin/sign"
	"tocsin/wire"
)

// Save writes it (O7).
func (r *Room) Save(w *wire.Writer) {
	if w == nil { // no call panics (P1)
		return
	}
	w.Text(r.id)
	saveEach(w, r.users, saveUser)
	w.Text(r.creator)
	w.Flag(r.levels.come)
	saveNumber(w, r.levels.others)
	saveEach(w, r.levels.users, saveNumber)
	saveEach(w, r.levels.needs, saveNumber)
}

// saveEach writes a map as a list by rising keys, so that there is one way to write it.
func saveEach[V any](w *wire.Writer, m map[string]V, one func(*wire.Writer, V)) {
	var keys []string
	for key := range m {
		keys = append(keys, key)
	}
	slices.Sort(keys)
	wire.WriteList(w, keys, func(w *wire.Writer, key string) {
		w.Text(key)
		one(w, m[key])
	})
}

func saveUser(w *wire.Writer, u user) {
	w.Int(int64(u.membership))
	w.Text(u.display)
}

func saveNumber(w *wire.Writer, n int) { w.Int(int64(n)) }

// Load reads what Save wrote (O7).
func Load(r *wire.Reader) (*Room, api.Errno) {
	if r == nil { // no call panics (P1)
		return nil, api.ErrWire
	}
	l := &loader{r: r}
	room := &Room{id: r.Text()}
	l.want(IsRoom(room.id))
	room.users = loadEach(l, api.MaxUsers, IsUser, l.user)
	room.creator = r.Text()
	l.want(room.creator == "" || IsUser(room.creator))
	room.levels = l.levels()
	if l.wrong || r.Err() != nil {
		return nil, api.ErrWire
	}
	return room, api.OK
}

// A loader reads on when it has met what Save never writes, and keeps that in mind.
type loader struct {
	r     *wire.Reader
	wrong bool
}

// want says what must be so.
func (l *loader) want(ok bool) { l.wrong = l.wrong || !ok }

// loadEach reads a list by rising keys as a map; mayBe tells which keys there may be.
func loadEach[V any](l *loader, most int, mayBe func(string) bool, one func() V) map[string]V {
	m := map[string]V{}
	last := ""
	wire.ReadList(l.r, most, func(r *wire.Reader) struct{} {
		key := r.Text()
		l.want(mayBe(key) && (len(m) == 0 || last < key))
		m[key] = one()
		last = key
		return struct{}{}
	})
	return m
}

func (l *loader) user() user {
	n := l.r.Int()
	u := user{display: l.r.Text()}
	l.want(0 <= n && n < int64(memberships))
	u.membership = membership(n)
	l.want(sign.Valid(u.display) && (u.display == "" || u.membership == join))
	return u
}

func (l *loader) number() int {
	n := l.r.Int()
	l.want(mayBeLevel(n))
	return int(n)
}

func (l *loader) levels() levels {
	var all levels
	all.come = l.r.Flag()
	all.others = l.number()
	all.users = loadEach(l, api.MaxItems, IsUser, l.number)
	all.needs = loadEach(l, api.MaxItems, sign.Valid, l.number)
	l.want(all.come || all.others == 0 && len(all.users) == 0 && len(all.needs) == 0)
	return all
}
