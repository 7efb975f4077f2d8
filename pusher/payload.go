package pusher

import (
	"tocsin/api"
	"tocsin/jsonval"
)

// payload is a note of an event, printed.
func payload(full bool, event *jsonval.Value, a api.Actions, unread int) string {
	members := map[string]*jsonval.Value{
		"counts": jsonval.OfMap(map[string]*jsonval.Value{"unread": number(unread)}),
	}
	if full {
		members["event"] = event
		members["tweaks"] = tweaks(a)
	} else {
		members["event_id"] = textOf(event, "event_id")
		members["room_id"] = textOf(event, "room_id")
	}
	return jsonval.OfMap(members).Print()
}

func tweaks(a api.Actions) *jsonval.Value {
	members := map[string]*jsonval.Value{}
	if a.Highlight {
		members["highlight"] = jsonval.OfBool(true)
	}
	if a.Sound != "" {
		members["sound"] = jsonval.OfText(a.Sound)
	}
	return jsonval.OfMap(members)
}

// textOf is the text that an event has there; an empty one, if it has none.
func textOf(event *jsonval.Value, key string) *jsonval.Value {
	return jsonval.OfText(event.Get(key).Text())
}
