package rules

import (
	"tocsin/api"
	"tocsin/cond"
	"tocsin/glob"
	"tocsin/jsonval"
)

// readRule reads a user's rule, as it is when it is new (R2).
func readRule(k kind, id string, v *jsonval.Value) (Rule, api.Errno) {
	actions, ok := readActions(v.Get("actions")) // of what is no Object: none
	if !ok || !k.mayBe(id) {
		return Rule{}, api.ErrRule
	}
	conds, errno := readConds(k, id, v)
	if errno != api.OK {
		return Rule{}, errno
	}
	return Rule{Kind: k.name(), ID: id, Enabled: true, Conds: conds, Actions: actions}, api.OK
}

// readConds gives the conditions of a user's rule.
func readConds(k kind, id string, v *jsonval.Value) ([]*cond.Cond, api.Errno) {
	switch k {
	case room, sender:
		return byID(k, id), api.OK
	case content:
		return readPattern(v.Get("pattern"))
	}
	list := v.Get("conditions")
	if list == nil {
		return nil, api.OK
	}
	return readList(list)
}

func readPattern(v *jsonval.Value) ([]*cond.Cond, api.Errno) {
	_, errno := glob.Compile(v.Text())
	if v.Kind() != jsonval.Text || errno != api.OK {
		return nil, api.ErrRule
	}
	return []*cond.Cond{bodyMatch(v.Text())}, api.OK
}

func readList(v *jsonval.Value) ([]*cond.Cond, api.Errno) {
	if v.Kind() != jsonval.List || v.Len() > api.MaxConds {
		return nil, api.ErrRule
	}
	var conds []*cond.Cond
	for i := range v.Len() {
		c, errno := cond.Parse(v.Item(i))
		if errno != api.OK {
			return nil, errno
		}
		conds = append(conds, c)
	}
	return conds, api.OK
}
