package room

import (
	"maps"
	"slices"
	"strings"
	"testing"

	"tocsin/api"
	"tocsin/jsonval"
)

// reads wants that an event is refused.
func reads(t testing.TB, text string, want api.Errno) {
	t.Helper()
	if e, errno := ReadEvent(value(t, text)); e != nil || errno != want {
		t.Errorf("O1, P2: ReadEvent(%s): %v, %d; want nil, %d", text, e != nil, errno, want)
	}
}

// parts are an event's members, as they are written.
type parts map[string]string

func (p parts) with(key, v string) parts {
	q := maps.Clone(p)
	if q[key] = v; v == "" {
		delete(q, key)
	}
	return q
}

func (p parts) text() string {
	var members []string
	for _, key := range slices.Sorted(maps.Keys(p)) {
		members = append(members, `"`+key+`":`+p[key])
	}
	return "{" + strings.Join(members, ",") + "}"
}

func plain() parts {
	return parts{"event_id": `"$1"`, "room_id": `"!r"`, "sender": `"@a:x"`, "type": `"t"`, "content": `{}`}
}

func takes(t testing.TB, p parts, want Event) {
	t.Helper()
	v := value(t, p.text())
	want.Body = v
	if e, errno := ReadEvent(v); e == nil || errno != api.OK || *e != want {
		t.Errorf("O1: ReadEvent(%s): %+v, %d; want %+v", p.text(), e, errno, want)
	}
}

func TestReadEvent(t *testing.T) {
	p := plain()
	bare := Event{ID: "$1", Room: "!r", Sender: "@a:x", Type: "t"}
	with := func(change func(*Event)) Event {
		e := bare
		change(&e)
		return e
	}
	takes(t, p, bare)
	takes(t, p.with("event_id", `"$Ab:c"`), with(func(e *Event) { e.ID = "$Ab:c" }))
	takes(t, p.with("room_id", `"!\u0041b:c"`), with(func(e *Event) { e.Room = "!Ab:c" }))
	takes(t, p.with("sender", `"@b:home"`), with(func(e *Event) { e.Sender = "@b:home" }))
	takes(t, p.with("type", `" "`), with(func(e *Event) { e.Type = " " }))
	takes(t, p.with("content", `{"body":"x","state_key":"k","redacts":"$0"}`), bare)
	takes(t, p.with("state_key", `""`), with(func(e *Event) { e.State = true }))
	takes(t, p.with("state_key", `"é\u0000"`), with(func(e *Event) { e.State, e.Key = true, "é\x00" }))
	takes(t, p.with("more", `[null]`).with("ID", `5`).with("", `null`).with("Event_id", `1`), bare)
	// Sixty bytes, and one more.
	long := strings.Repeat("x", 59)
	takes(t, p.with("event_id", `"$`+long+`"`), with(func(e *Event) { e.ID = "$" + long }))
	takes(t, p.with("room_id", `"!`+long+`"`), with(func(e *Event) { e.Room = "!" + long }))
	takes(t, p.with("sender", `"@`+long[2:]+`:h"`), with(func(e *Event) { e.Sender = "@" + long[2:] + ":h" }))
	takes(t, p.with("type", `"y`+long+`"`), with(func(e *Event) { e.Type = "y" + long }))
	takes(t, p.with("type", `"`+strings.Repeat("é", 30)+`"`), with(func(e *Event) { e.Type = strings.Repeat("é", 30) }))
	takes(t, p.with("state_key", `"y`+long+`"`), with(func(e *Event) { e.State, e.Key = true, "y"+long }))
	reads(t, p.with("event_id", `"$x`+long+`"`).text(), api.ErrID)
	reads(t, p.with("room_id", `"!x`+long+`"`).text(), api.ErrID)
	reads(t, p.with("sender", `"@x`+long[2:]+`:h"`).text(), api.ErrID)
	reads(t, p.with("type", `"yx`+long+`"`).text(), api.ErrID)
	reads(t, p.with("type", `"`+strings.Repeat("é", 31)+`"`).text(), api.ErrID)
	reads(t, p.with("state_key", `"yx`+long+`"`).text(), api.ErrID)
}

func TestReadRedaction(t *testing.T) {
	p := plain()
	// Of other types it is nothing, whatever it is.
	for _, redacts := range []string{`"$0"`, `"x"`, `""`, `null`, `5`, `true`, `[]`, `{}`} {
		for _, kind := range []string{"t", "m.room.redactions", "m.room.redactio", "M.room.redaction", "m.room.message"} {
			takes(t, p.with("type", `"`+kind+`"`).with("redacts", redacts), Event{ID: "$1", Room: "!r", Sender: "@a:x", Type: kind})
		}
	}
	p = p.with("type", `"m.room.redaction"`)
	e := Event{ID: "$1", Room: "!r", Sender: "@a:x", Type: redaction}
	takes(t, p, e)
	takes(t, p.with("content", `{"redacts":"$0"}`), e)
	for _, id := range []string{"$0", "$1", "$Ab:c", "$" + strings.Repeat("x", 59)} {
		e.Redacts = id
		takes(t, p.with("redacts", `"`+id+`"`), e)
		e.State, e.Key = true, "k"
		takes(t, p.with("redacts", `"`+id+`"`).with("state_key", `"k"`), e)
		e.State, e.Key = false, ""
	}
	for _, wrong := range []string{`null`, `true`, `5`, `[]`, `["$0"]`, `{}`} {
		reads(t, p.with("redacts", wrong).text(), api.ErrEvent)
	}
	for _, wrong := range []string{"", "$", "0", "!0", "@a:x", "$é", "$a b", "$" + strings.Repeat("x", 60)} {
		reads(t, p.with("redacts", `"`+wrong+`"`).text(), api.ErrID)
	}
}

func TestReadEventsKinds(t *testing.T) {
	for _, kind := range []string{`"t"`, `"m.room.redaction"`} {
		p := plain().with("type", kind)
		for _, key := range []string{"event_id", "room_id", "sender", "type"} {
			for _, wrong := range []string{"", "null", "true", "false", "0", "5", "[]", `["$1"]`, "{}", `{"a":"$1"}`} {
				reads(t, p.with(key, wrong).text(), api.ErrEvent)
			}
		}
		for _, wrong := range []string{"", "null", "true", "5", `""`, `"{}"`, "[]", "[{}]"} {
			reads(t, p.with("content", wrong).text(), api.ErrEvent)
		}
		for _, wrong := range []string{"null", "true", "false", "0", "[]", `[""]`, "{}"} {
			reads(t, p.with("state_key", wrong).text(), api.ErrEvent)
		}
	}
	for _, wrong := range []string{"null", "true", "false", "0", `""`, `"$1"`, "[]", "{}", `[{"event_id":"$1"}]`, "[" + plain().text() + "]"} {
		reads(t, wrong, api.ErrEvent)
	}
	for _, v := range []*jsonval.Value{nil, {}} { // both are null
		if e, errno := ReadEvent(v); e != nil || errno != api.ErrEvent {
			t.Errorf("O1, P1: ReadEvent of nil: %v, %d; want nil, ErrEvent", e != nil, errno)
		}
	}
}

func TestReadEventsOrder(t *testing.T) {
	// Each that is no name, alone; and with each that is of no kind: ErrEvent is told first.
	p := plain().with("type", `"m.room.redaction"`).with("state_key", `""`).with("redacts", `"$0"`)
	names := map[string]string{"event_id": `"1"`, "room_id": `"r"`, "sender": `"@a"`, "redacts": `"0"`, "state_key": `"` + strings.Repeat("k", 61) + `"`}
	kinds := map[string]string{"event_id": `1`, "room_id": `null`, "sender": `{}`, "redacts": `[]`, "state_key": `null`, "content": `"x"`, "type": `5`}
	for key, name := range names {
		reads(t, p.with(key, name).text(), api.ErrID)
		for other, kind := range kinds {
			if other != key {
				reads(t, p.with(key, name).with(other, kind).text(), api.ErrEvent)
			}
		}
		for other, kind := range names {
			reads(t, p.with(key, name).with(other, kind).text(), api.ErrID)
		}
	}
	for _, kind := range []string{`""`, `"` + strings.Repeat("t", 61) + `"`} {
		q := p.with("type", kind)
		reads(t, q.text(), api.ErrID)
		reads(t, q.with("redacts", "5").text(), api.ErrID) // of no redaction it is nothing
		for other, kind := range kinds {
			if other != "type" && other != "redacts" {
				reads(t, q.with(other, kind).text(), api.ErrEvent)
			}
		}
	}
}
