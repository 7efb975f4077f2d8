package room

import (
	"tocsin/api"
	"tocsin/jsonval"
)

// Event is one that may be.
type Event struct {
	ID, Room, Sender, Type string
	State                  bool
	Key                    string // of state
	Redacts                string // which event it takes back
	Body                   *jsonval.Value
}

const redaction = "m.room.redaction"

// ReadEvent reads one (O1).
func ReadEvent(v *jsonval.Value) (*Event, api.Errno) {
	if !isShaped(v) {
		return nil, api.ErrEvent
	}
	key := v.Get("state_key")
	e := &Event{
		ID:     v.Get("event_id").Text(),
		Room:   v.Get("room_id").Text(),
		Sender: v.Get("sender").Text(),
		Type:   v.Get("type").Text(),
		State:  key != nil,
		Key:    key.Text(),
		Body:   v,
	}
	if !isNamed(e) {
		return nil, api.ErrID
	}
	if redacts := v.Get("redacts"); e.Type == redaction && redacts != nil {
		e.Redacts = redacts.Text()
		if !IsEvent(e.Redacts) {
			return nil, api.ErrID
		}
	}
	return e, api.OK
}

// isShaped tells whether an event's members are of their kinds.
func isShaped(v *jsonval.Value) bool {
	for _, key := range []string{"event_id", "room_id", "sender", "type"} {
		if v.Get(key).Kind() != jsonval.Text {
			return false
		}
	}
	if v.Get("type").Text() == redaction && !isTextOrNone(v.Get("redacts")) {
		return false
	}
	return v.Get("content").Kind() == jsonval.Object && isTextOrNone(v.Get("state_key"))
}

// isTextOrNone asks for nil, not for the kind: a member whose value is null is there.
func isTextOrNone(v *jsonval.Value) bool { return v == nil || v.Kind() == jsonval.Text }

func isNamed(e *Event) bool {
	return IsEvent(e.ID) && IsRoom(e.Room) && IsUser(e.Sender) && e.Type != "" && len(e.Type) <= api.MaxID && len(e.Key) <= api.MaxID
}

// isMembership tells whether an event says of a user whether it is a member.
func (e *Event) isMembership() bool { return e.State && e.Type == "m.room.member" && IsUser(e.Key) }

// isOfRoom tells whether an event is one of state of the whole room.
func (e *Event) isOfRoom(kind string) bool { return e.State && e.Type == kind && e.Key == "" }
