package route

import (
	"slices"

	"tocsin/api"
	"tocsin/jsonval"
)

// A row of the table: a way to ask, and the command that it asks for.
type row struct {
	method string
	path   []part
	query  []string                    // names; each is a member, too
	body   string                      // the member that is the body
	takes  func(v *jsonval.Value) bool // whether a value may be the body; nil: there is none
	do     string
	asker  bool // whether the command has the user
}

// table is made anew for who asks, so that nobody holds it.
func table() []row {
	rule := []part{word("rules"), text("kind"), text("id")}
	enabled, actions := slices.Concat(rule, []part{word("enabled")}), slices.Concat(rule, []part{word("actions")})
	receipt := []part{word("rooms"), text("room"), word("receipt"), text("event")}
	pusher := []part{word("pushers"), text("key")}
	return []row{
		{method: "PUT", path: []part{word("events")}, body: "event", takes: isAny, do: "event"},
		{method: "PUT", path: rule, query: []string{"before", "after"}, body: "rule", takes: isObject, do: "put_rule", asker: true},
		{method: "DELETE", path: rule, do: "delete_rule", asker: true},
		{method: "PUT", path: enabled, body: "enabled", takes: isBool, do: "enable_rule", asker: true},
		{method: "PUT", path: actions, body: "actions", takes: isList, do: "set_actions", asker: true},
		{method: "GET", path: []part{word("rules")}, do: "rules", asker: true},
		{method: "POST", path: receipt, do: "receipt", asker: true},
		{method: "GET", path: []part{word("counts")}, query: []string{"room"}, do: "counts", asker: true},
		{method: "PUT", path: pusher, body: "format", takes: isText, do: "set_pusher", asker: true},
		{method: "DELETE", path: pusher, do: "remove_pusher", asker: true},
		{method: "GET", path: []part{word("pushers")}, do: "pushers", asker: true},
		{method: "POST", path: []part{word("tick")}, body: "now", takes: isInt, do: "tick"},
		{method: "POST", path: []part{word("attempts"), number("attempt")}, body: "result", takes: isText, do: "reply"},
		{method: "POST", path: []part{word("rotate")}, do: "rotate"},
		{method: "GET", path: []part{word("rooms"), text("room")}, do: "room"},
	}
}

func isAny(*jsonval.Value) bool { return true }

func isObject(v *jsonval.Value) bool { return v.Kind() == jsonval.Object }

func isBool(v *jsonval.Value) bool { return v.Kind() == jsonval.Bool }

func isList(v *jsonval.Value) bool { return v.Kind() == jsonval.List }

func isText(v *jsonval.Value) bool { return v.Kind() == jsonval.Text }

func isInt(v *jsonval.Value) bool { return v.Kind() == jsonval.Int }

// wayOf gives the row whose commands have this name.
func wayOf(do string) (row, bool) {
	for _, r := range table() {
		if r.do == do {
			return r, true
		}
	}
	return row{}, false
}

// lying gives the rows with these segments.
func lying(segments []string) []row {
	var found []row
rows:
	for _, r := range table() {
		if len(r.path) != len(segments) {
			continue
		}
		for i, p := range r.path {
			if p.read(segments[i]) == nil {
				continue rows
			}
		}
		found = append(found, r)
	}
	return found
}

// seek gives the row by which a target is asked for; an error, if there is none.
func seek(method string, t target) (row, api.Errno) {
	rows := lying(t.segments)
	if len(rows) == 0 {
		return row{}, api.ErrRoute
	}
names:
	for _, p := range t.query {
		for _, r := range rows {
			if slices.Contains(r.query, p.name) {
				continue names
			}
		}
		return row{}, api.ErrRoute
	}
	for _, r := range rows {
		if r.method == method && r.hasAll(t.query) {
			return r, api.OK
		}
	}
	return row{}, api.ErrMethod
}

// hasAll tells whether all names of a query are the row's.
func (r row) hasAll(query []pair) bool {
	return !slices.ContainsFunc(query, func(p pair) bool { return !slices.Contains(r.query, p.name) })
}
