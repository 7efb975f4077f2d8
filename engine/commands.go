package engine

import (
	"tocsin/api"
	"tocsin/jsonval"
	"tocsin/room"
)

// A command is a value that has come, be it one or not.
type command struct {
	*jsonval.Value
}

func (c command) text(key string) string { return c.Get(key).Text() }

func (c command) number(key string) int { return int(c.Get(key).Number()) }

// A row is a command: its name, its fields, and what does it.
type row struct {
	do     string
	gives  bool // a user something, who is one of the people then
	asks   bool // and changes nothing
	fields []field
	run    func(*Engine, command) (answer, api.Errno)
}

// find gives the row of what a command is to do; false, if there is none.
func find(v *jsonval.Value) (row, bool) {
	do := v.Get("do").Text() // empty, where there is none, which is no command's name
	for _, r := range table() {
		if r.do == do {
			return r, true
		}
	}
	return row{}, false
}

// table is the document's table of commands. The fields stand in the order in which their names are looked at.
func table() []row {
	user := field{key: "user", kind: jsonval.Text, is: room.IsUser, local: true}
	inRoom := field{key: "room", kind: jsonval.Text, is: room.IsRoom}
	upTo := field{key: "event", kind: jsonval.Text, is: room.IsEvent}
	kind, id, key := text("kind"), text("id"), text("key")
	return []row{
		{do: "event", fields: []field{{key: "event", any: true}}, run: (*Engine).takeEvent},
		{do: "put_rule", gives: true, fields: []field{user, kind, id, {key: "rule", kind: jsonval.Object}, maybe(text("before")), maybe(text("after"))}, run: (*Engine).putRule},
		{do: "delete_rule", gives: true, fields: []field{user, kind, id}, run: (*Engine).deleteRule},
		{do: "enable_rule", gives: true, fields: []field{user, kind, id, {key: "enabled", kind: jsonval.Bool}}, run: (*Engine).enableRule},
		{do: "set_actions", gives: true, fields: []field{user, kind, id, {key: "actions", kind: jsonval.List}}, run: (*Engine).setActions},
		{do: "rules", asks: true, fields: []field{user}, run: (*Engine).tellRules},
		{do: "receipt", gives: true, fields: []field{user, inRoom, upTo}, run: (*Engine).takeReceipt},
		{do: "counts", asks: true, fields: []field{user, maybe(inRoom)}, run: (*Engine).tellCounts},
		{do: "set_pusher", gives: true, fields: []field{user, key, text("format")}, run: (*Engine).setPusher},
		{do: "remove_pusher", fields: []field{user, key}, run: (*Engine).removePusher},
		{do: "pushers", asks: true, fields: []field{user}, run: (*Engine).tellPushers},
		{do: "tick", fields: []field{{key: "now", kind: jsonval.Int}}, run: (*Engine).tick},
		{do: "reply", fields: []field{{key: "attempt", kind: jsonval.Int}, text("result")}, run: (*Engine).reply},
		{do: "rotate", run: (*Engine).rotate},
		{do: "room", asks: true, fields: []field{inRoom}, run: (*Engine).tellRoom},
	}
}

// A field is a member that a command has.
type field struct {
	key   string
	kind  jsonval.Kind
	any   bool                   // it may be of any kind
	maybe bool                   // it may be left out
	is    func(name string) bool // of a name: may it be one?
	local bool                   // and it must be a local user's
}

func text(key string) field { return field{key: key, kind: jsonval.Text} }

func maybe(f field) field {
	f.maybe = true
	return f
}

// fits tells whether the fields are there, and of their kinds.
func (r row) fits(c command) bool {
	for _, f := range r.fields {
		v := c.Get(f.key)
		if v == nil && !f.maybe || v != nil && !f.any && v.Kind() != f.kind {
			return false
		}
	}
	return true
}

// checkNames tells what is wrong with the first name that may not be.
func (r row) checkNames(c command) api.Errno {
	for _, f := range r.fields {
		if f.is == nil || c.Get(f.key) == nil {
			continue
		}
		name := c.text(f.key)
		if !f.is(name) {
			return api.ErrID
		}
		if f.local && !room.Local(name) {
			return api.ErrForeign
		}
	}
	return api.OK
}
