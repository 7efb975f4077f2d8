package cond

import (
	"tocsin/api"
	"tocsin/jsonval"
)

// A kind is a row of the table: all that conditions of one kind do in their own way.
type kind struct {
	name  string
	own   bool                                             // does it ask for the user's name?
	read  func(c *Cond, v *jsonval.Value) bool             // takes what it needs; false: that is not there, or not as it must be
	write func(c *Cond, members map[string]*jsonval.Value) // adds what it needs, in its one way
	holds func(c *Cond, f Facts) bool
	fixed func(c *Cond) (text string, ok bool) // what must stand at its key, in small letters; false: more than one text may
}

// kinds is the table of the kinds that are known.
func kinds() []kind {
	return []kind{
		{name: "event_match", read: readMatch, write: writeMatch, holds: matches, fixed: fixedByPattern},
		{name: "event_property_is", read: readProperty, write: writeProperty, holds: isValue, fixed: fixedByValue},
		{name: "event_property_contains", read: readProperty, write: writeProperty, holds: containsValue, fixed: notFixed},
		{name: "contains_display_name", own: true, read: readNothing, write: writeNothing, holds: containsName, fixed: notFixed},
		{name: "room_member_count", read: readCount, write: writeCount, holds: countIs, fixed: notFixed},
		{name: "sender_notification_permission", read: readPermission, write: writeKey, holds: permitted, fixed: notFixed},
	}
}

// kindOf gives the row of a name; one that is not known is a kind of its own, which never holds.
func kindOf(name string) kind {
	for _, k := range kinds() {
		if k.name == name {
			return k
		}
	}
	return kind{name: name, read: readNothing, write: writeNothing, holds: never, fixed: notFixed}
}

func readNothing(c *Cond, v *jsonval.Value) bool { return true }

func writeNothing(c *Cond, members map[string]*jsonval.Value) {}

func writeKey(c *Cond, members map[string]*jsonval.Value) {
	members["key"] = jsonval.OfText(c.key)
}

func never(c *Cond, f Facts) bool { return false }

func notFixed(c *Cond) (string, bool) { return "", false }

// textIn gives the text of a member; false: there is no such member, or it is no Text.
func textIn(v *jsonval.Value, key string) (string, bool) {
	member := v.Get(key)
	return member.Text(), member.Kind() == jsonval.Text
}

// nameIn gives a member's text, if it is as long as a name may be.
func nameIn(v *jsonval.Value, key string) (string, bool) {
	name, ok := textIn(v, key)
	return name, ok && name != "" && len(name) <= api.MaxID
}
