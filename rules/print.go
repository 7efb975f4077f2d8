package rules

import (
	"tocsin/cond"
	"tocsin/jsonval"
)

// Print writes the set, for an answer (R6).
func (s *Set) Print() *jsonval.Value {
	var lists [kinds][]*jsonval.Value
	for r := range s.All() {
		k, _ := kindOf(r.Kind)
		lists[k] = append(lists[k], printRule(k, r))
	}
	m := members{}
	for k := range kinds {
		m[k.name()] = jsonval.OfList(lists[k]...)
	}
	return jsonval.OfMap(m)
}

func printRule(k kind, r Rule) *jsonval.Value {
	m := members{
		"rule_id": jsonval.OfText(r.ID),
		"default": jsonval.OfBool(r.Own),
		"enabled": jsonval.OfBool(r.Enabled),
		"actions": printActions(r.Actions),
	}
	if k.hasConditions() {
		m["conditions"] = printConds(r.Conds)
	}
	if k == content {
		m["pattern"] = jsonval.OfText(patternOf(r))
	}
	return jsonval.OfMap(m)
}

func printConds(conds []*cond.Cond) *jsonval.Value {
	var items []*jsonval.Value
	for _, c := range conds {
		items = append(items, c.Print())
	}
	return jsonval.OfList(items...)
}
