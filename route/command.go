package route

import (
	"slices"

	"tocsin/jsonval"
)

// readBody reads a body; nil and true: there is none, as it should be.
func (r row) readBody(b []byte) (*jsonval.Value, bool) {
	if r.takes == nil {
		return nil, len(b) == 0
	}
	v, err := jsonval.Parse(b)
	return v, err == nil && r.takes(v)
}

// command makes the command that a target of this row, and a body, ask for.
func (r row) command(t target, body *jsonval.Value, user string) *jsonval.Value {
	members := map[string]*jsonval.Value{"do": jsonval.OfText(r.do)}
	if r.asker {
		members["user"] = jsonval.OfText(user)
	}
	for i, p := range r.path {
		if p.member != "" {
			members[p.member] = p.read(t.segments[i])
		}
	}
	for _, p := range t.query {
		members[p.name] = jsonval.OfText(p.value)
	}
	if r.takes != nil {
		members[r.body] = body
	}
	return jsonval.OfMap(members)
}

// writeTarget gives the target that asks for a command of this row; false: it is none.
func (r row) writeTarget(command *jsonval.Value, user string) (target, bool) {
	var t target
	if r.asker && !jsonval.Same(command.Get("user"), jsonval.OfText(user)) || !r.hasBody(command) || r.lacks(command) {
		return t, false
	}
	for _, p := range r.path {
		segment, ok := p.write(command.Get(p.member))
		if !ok {
			return t, false
		}
		t.segments = append(t.segments, segment)
	}
	for _, name := range r.query {
		v := command.Get(name)
		if v == nil {
			continue
		}
		value, ok := writeText(v)
		if !ok {
			return t, false
		}
		t.query = append(t.query, pair{name: name, value: value})
	}
	return t, true
}

func (r row) hasBody(command *jsonval.Value) bool {
	v := command.Get(r.body)
	return r.takes == nil || v != nil && r.takes(v)
}

// lacks tells whether a command has a member that the row does not tell.
func (r row) lacks(command *jsonval.Value) bool {
	members := r.members()
	for i := range command.Len() {
		if !slices.Contains(members, command.Key(i)) {
			return true
		}
	}
	return false
}

// members gives the names of all members that a command of the row may have.
func (r row) members() []string {
	members := slices.Concat([]string{"do"}, r.query)
	for _, p := range r.path {
		if p.member != "" {
			members = append(members, p.member)
		}
	}
	if r.asker {
		members = append(members, "user")
	}
	if r.takes != nil {
		members = append(members, r.body)
	}
	return members
}

func (r row) writeBody(command *jsonval.Value) []byte {
	if r.takes == nil {
		return nil
	}
	return []byte(command.Get(r.body).Print())
}
