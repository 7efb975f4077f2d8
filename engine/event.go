package engine

import (
	"slices"

	"tocsin/api"
	"tocsin/jsonval"
	"tocsin/room"
)

// takeEvent refuses an event, or takes it in whole (E3).
func (e *Engine) takeEvent(c command) (answer, api.Errno) {
	ev, errno := room.ReadEvent(c.Get("event"))
	if errno != api.OK {
		return nil, errno
	}
	r, errno := e.roomFor(ev)
	if errno != api.OK {
		return nil, errno
	}
	place, errno := e.book.Event(ev.Room, ev.ID)
	if errno != api.OK {
		return nil, errno
	}
	e.rooms[ev.Room] = r
	e.apply(r, ev)
	if ev.Redacts != "" {
		e.book.Redact(ev.Room, ev.Redacts)
	}
	verdicts := e.index.Evaluate(r, ev, asked(r, ev))
	e.note(ev, verdicts)
	return answer{"place": number(place), "told": told(verdicts)}, api.OK
}

// roomFor is the room of an event, if that may take it in; a new one is not kept yet.
func (e *Engine) roomFor(ev *room.Event) (*room.Room, api.Errno) {
	r := e.rooms[ev.Room]
	if r == nil {
		if len(e.rooms) >= api.MaxRooms {
			return nil, api.ErrRooms
		}
		r, _ = room.New(ev.Room) // it is a room's name, always
	}
	return r, r.May(ev)
}

// apply lets a room take an event in; who comes to it, and who leaves it, has another seat then.
func (e *Engine) apply(r *room.Room, ev *room.Event) {
	ahead := locals(r)
	r.Apply(ev)
	for _, user := range ahead {
		if !r.Is(user) {
			e.book.Leave(user, ev.Room)
			e.seat(user)
		}
	}
	for _, user := range locals(r) {
		if !slices.Contains(ahead, user) {
			e.seat(user)
		}
	}
}

// locals are the local members of a room, by rising names.
func locals(r *room.Room) []string {
	return slices.DeleteFunc(r.Joined(), func(user string) bool { return !room.Local(user) })
}

// asked are those whose rules are asked of an event that the room has taken in.
func asked(r *room.Room, ev *room.Event) []string {
	return slices.DeleteFunc(locals(r), func(user string) bool { return user == ev.Sender })
}

// note lets those who are to be told of an event have a note, and their pushers, too.
func (e *Engine) note(ev *room.Event, verdicts []api.Verdict) {
	for _, v := range verdicts {
		if !v.Actions.Notify {
			continue
		}
		e.book.Note(v.User, ev.Room, ev.ID, v.Actions)
		unread, _ := e.book.Counts(v.User, ev.Room)
		e.post.Push(v.User, ev.Body, v.Actions, unread)
	}
}

func told(verdicts []api.Verdict) *jsonval.Value {
	var all []*jsonval.Value
	for _, v := range verdicts {
		all = append(all, jsonval.OfMap(answer{
			"user":      jsonval.OfText(v.User),
			"rule":      jsonval.OfText(v.Rule),
			"notify":    jsonval.OfBool(v.Actions.Notify),
			"highlight": jsonval.OfBool(v.Actions.Highlight),
			"sound":     jsonval.OfText(v.Actions.Sound),
		}))
	}
	return jsonval.OfList(all...)
}
