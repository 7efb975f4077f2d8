package rules

import (
	"tocsin/cond"
	"tocsin/jsonval"
)

// members are what an Object is made of.
type members map[string]*jsonval.Value

// condition makes one of which it is known that it may be.
func condition(kind string, m members) *cond.Cond {
	m["kind"] = jsonval.OfText(kind)
	c, _ := cond.Parse(jsonval.OfMap(m))
	return c
}

func match(key string, pattern string) *cond.Cond {
	return condition("event_match", members{"key": jsonval.OfText(key), "pattern": jsonval.OfText(pattern)})
}

func is(key string, v *jsonval.Value) *cond.Cond {
	return condition("event_property_is", members{"key": jsonval.OfText(key), "value": v})
}

func contains(key string, v *jsonval.Value) *cond.Cond {
	return condition("event_property_contains", members{"key": jsonval.OfText(key), "value": v})
}

func joined(count string) *cond.Cond {
	return condition("room_member_count", members{"is": jsonval.OfText(count)})
}

func permission(key string) *cond.Cond {
	return condition("sender_notification_permission", members{"key": jsonval.OfText(key)})
}

// bodyMatch is the condition of a rule of the kind content.
func bodyMatch(pattern string) *cond.Cond { return match("content.body", pattern) }

// patternOf gives back what bodyMatch was made of, in its one way: it is kept in the condition alone.
func patternOf(r Rule) string { return r.Conds[0].Print().Get("pattern").Text() }

// byID gives the conditions of a rule that has them by its ID.
func byID(k kind, id string) []*cond.Cond {
	if k == room {
		return []*cond.Cond{is("room_id", jsonval.OfText(id))}
	}
	return []*cond.Cond{is("sender", jsonval.OfText(id))}
}
