package engine

import (
	"maps"
	"slices"

	"tocsin/api"
	"tocsin/jsonval"
)

// roomsOf are the rooms of which a user is a member, by rising names.
func (e *Engine) roomsOf(user string) []string {
	var names []string
	for name, r := range e.rooms {
		if r.Is(user) {
			names = append(names, name)
		}
	}
	slices.Sort(names)
	return names
}

func (e *Engine) tellRoom(c command) (answer, api.Errno) {
	r := e.rooms[c.text("room")]
	if r == nil {
		return nil, api.ErrState
	}
	return answer{"room": r.Print()}, api.OK
}

func (e *Engine) takeReceipt(c command) (answer, api.Errno) {
	user := c.text("user")
	changed := e.book.Receipt(user, c.text("room"), c.text("event"))
	if changed {
		e.welcome(user)
	}
	return answer{"changed": jsonval.OfBool(changed)}, api.OK
}

// tellCounts tells what a user has not read in a room, or in each of the user's (E4).
func (e *Engine) tellCounts(c command) (answer, api.Errno) {
	user := c.text("user")
	if c.Get("room") != nil {
		return e.countsIn(user, c.text("room")), api.OK
	}
	var all []*jsonval.Value
	for _, name := range e.roomsOf(user) {
		one := e.countsIn(user, name)
		one["room"] = jsonval.OfText(name)
		all = append(all, jsonval.OfMap(one))
	}
	return answer{"rooms": jsonval.OfList(all...)}, api.OK
}

func (e *Engine) countsIn(user, name string) answer {
	unread, highlight := e.book.Counts(user, name)
	return answer{"unread": number(unread), "highlight": number(highlight)}
}

func (e *Engine) rotate(command) (answer, api.Errno) {
	return answer{"kept": number(e.book.Rotate())}, api.OK
}

// rising are the keys of a map in their order.
func rising[V any](m map[string]V) []string { return slices.Sorted(maps.Keys(m)) }
