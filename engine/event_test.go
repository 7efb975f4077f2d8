package engine

import (
	"fmt"
	"slices"
	"strings"
	"testing"

	"tocsin/api"
	"tocsin/room"
)

// always says by a rule ahead of all others that a user is to be told so.
func always(user, actions string) string {
	return putRule(user, "override", "always", `{"actions":`+actions+`}`)
}

func TestWhatIsNoEvent(t *testing.T) { // E3
	a := newAsker(t)
	for _, x := range []string{`null`, `true`, `1`, `"x"`, `[]`, `{}`, `{"event_id":"$1","room_id":"!r","sender":"@a:home","type":"x"}`,
		`{"event_id":"$1","room_id":"!r","sender":"@a:home","type":"x","content":[]}`, `{"event_id":"$1","room_id":1,"sender":"x","type":"x","content":{}}`,
		`{"event_id":"$1","room_id":"!r","sender":"@a:home","type":"x","content":{},"state_key":null}`,
		`{"event_id":"$1","room_id":"!r","sender":"@a:home","type":"m.room.redaction","content":{},"redacts":1}`} {
		a.refuses("E3", `{"do":"event","event":`+x+`}`, api.ErrEvent)
	}
	for _, command := range []string{
		event("1", "!r", "@a:home", "x", `"content":{}`), event("$1", "r", "@a:home", "x", `"content":{}`), event("$1", "!r", "@a", "x", `"content":{}`),
		event("$1", "!r", "@a:home", "", `"content":{}`), event("$1", "!r", "@a:home", strings.Repeat("x", 61), `"content":{}`), redaction("$1", "!r", "@a:home", "1"),
	} {
		a.refuses("E3", command, api.ErrID)
	}
	a.wants("E3", event("$1", "!r", "@a:away", "x", `"content":{}`), placed(1)) // from wherever it comes
}

func TestEventsThatAreKnown(t *testing.T) { // E3
	a := newAsker(t)
	a.wants("E3", joins("$1", "!r", "@a:home"), placed(1))
	a.refuses("E3", joins("$1", "!r", "@a:home"), api.ErrKnown)
	a.refuses("E3", message("$1", "!r", "@b:home", "x"), api.ErrKnown)
	a.refuses("E3", joins("$1", "!s", "@a:home"), api.ErrKnown) // and the room does not come to be
	a.refuses("E3, E7", `{"do":"room","room":"!s"}`, api.ErrState)
	a.refuses("E3", member("$1", "!r", "@a:home", "leave"), api.ErrKnown)
	a.wants("E3", joins("$2", "!s", "@a:home"), placed(2))
}

func TestNoMoreThan20Rooms(t *testing.T) { // E3
	a := newAsker(t)
	for n := range 20 {
		a.wants("E3", joins(fmt.Sprint("$", n), fmt.Sprint("!", n), "@a:home"), placed(n+1))
	}
	a.refuses("E3", joins("$x", "!x", "@a:home"), api.ErrRooms)
	a.refuses("E3", joins("$1", "!x", "@a:home"), api.ErrRooms) // ahead of what is known
	a.refuses("E3", joins("1", "!x", "@a:home"), api.ErrID)     // behind what is no event
	a.refuses("E3", `{"do":"event","event":{"room_id":"!x"}}`, api.ErrEvent)
	a.refuses("E3", joins("$1", "!1", "@a:home"), api.ErrKnown)
	a.wants("E3", member("$x", "!1", "@a:home", "leave"), placed(21))
	a.refuses("E3", joins("$y", "!x", "@a:home"), api.ErrRooms) // rooms that are empty are there
	if n := a.does(countsOf("@a:home")).Get("rooms").Len(); n != 19 {
		t.Errorf("E4: %d rooms", n)
	}
}

func TestNoMoreUsersThanARoomMayKnow(t *testing.T) { // E3
	a := newAsker(t)
	for n := range 60 {
		a.does(member(fmt.Sprint("$", n), "!r", fmt.Sprintf("@u%02d:home", n), []string{"join", "leave"}[n%2]))
	}
	a.refuses("E3", joins("$x", "!r", "@x:home"), api.ErrUsers)
	a.refuses("E3", joins("$1", "!r", "@x:home"), api.ErrUsers) // ahead of what is known
	a.refuses("E3", joins("1", "!r", "@x:home"), api.ErrID)
	a.does(joins("$x", "!s", "@x:home"), message("$y", "!r", "@x:home", "hello"))
	if n := a.does(joins("$z", "!r", "@u01:home")).Get("told").Len(); n != 30 {
		t.Errorf("E3: %d are asked", n)
	}
}

// longStream is an engine as it is saved whose stream has so many events, of a room where one is and of one where nobody is.
func longStream(t testing.TB, many int) asker {
	r, _ := room.New("!r")
	e, _ := room.ReadEvent(value(joins("$0", "!r", "@a:home")).Get("event"))
	r.Apply(e)
	var stream []string
	for n := range many {
		stream = append(stream, saidText([]string{"!r", "!s"}[n%2])+saidText(fmt.Sprint("$", n))+saidTruth(false))
	}
	return asker{t, loaded(t, saidNumber(0)+counted(saidBy(r.Save))+counted()+counted(stream...)+counted()+counted()+saidNumber(1)+counted())}
}

func TestNoMoreThan5000Events(t *testing.T) { // E3
	a := longStream(t, 4999)
	a.wants("E3", joins("$x", "!r", "@b:home"), placed(5000, silent("@a:home")))
	a.refuses("E3", message("$y", "!r", "@b:home", "hello"), api.ErrStream)
	a.refuses("E3", message("$4", "!r", "@b:home", "hello"), api.ErrKnown) // ahead of it
	a.refuses("E3", message("$y", "!t", "@b:home", "hello"), api.ErrStream)
	a.refuses("E3, E7", `{"do":"room","room":"!t"}`, api.ErrState)
	a.refuses("E3", message("y", "!r", "@b:home", "hello"), api.ErrID)
	for n := range 58 {
		a.engine.rooms["!r"].Apply(eventOf(joins(fmt.Sprint("$u", n), "!r", fmt.Sprintf("@u%d:home", n))))
	}
	a.refuses("E3", joins("$z", "!r", "@z:home"), api.ErrUsers)
	a.wants("E2", receipt("@a:home", "!r", "$4998"), `{"changed":true,"ok":true}`)
}

func eventOf(command string) *room.Event {
	e, _ := room.ReadEvent(value(command).Get("event"))
	return e
}

func TestWhoIsAsked(t *testing.T) { // E3
	a := newAsker(t)
	pair := func(user string) string { return toldOf(user, "underride/.pair", true, false, "default") }
	plain := func(user string) string { return toldOf(user, "underride/.message", true, false, "") }
	a.wants("E3", message("$1", "!r", "@x:away", "1"), placed(1)) // none is there
	a.wants("E3", joins("$2", "!r", "@b:home"), placed(2))        // the sender, who is not asked
	a.wants("E3", message("$3", "!r", "@b:home", "2"), placed(3))
	a.wants("E3", message("$4", "!r", "@x:home", "3"), placed(4, plain("@b:home"))) // a sender who is no member
	a.wants("E3", event("$5", "!r", "@x:home", "m.room.member", `"state_key":"@a:home","content":{"membership":"join"}`), placed(5, silent("@a:home"), silent("@b:home")))
	a.wants("E3", message("$6", "!r", "@b:home", "4"), placed(6, pair("@a:home")))
	a.wants("E3", joins("$7", "!r", "@d:away"), placed(7, silent("@a:home"), silent("@b:home")))
	a.wants("E3", joins("$8", "!r", "@a.a:home"), placed(8, silent("@a:home"), silent("@b:home"))) // by rising names: `.` stands ahead of `:`
	a.wants("E3", message("$9", "!r", "@d:away", "5"), placed(9, plain("@a.a:home"), plain("@a:home"), plain("@b:home")))
	a.wants("E3", member("$10", "!r", "@a.a:home", "leave"), placed(10, silent("@a:home"), silent("@b:home")))
	a.wants("E3", event("$11", "!r", "@b:home", "m.room.member", `"state_key":"@c:home","content":{"membership":"invite"}`), placed(11, silent("@a:home"))) // who is invited is no member
}

func TestRoomIsAskedAsItIsBehindTheEvent(t *testing.T) { // E3, O5
	a := newAsker(t)
	count := func(n int) string {
		return `{"actions":["notify"],"conditions":[{"kind":"room_member_count","is":"` + fmt.Sprint(n) + `"}]}`
	}
	a.does(putRule("@a:home", "override", "two", count(2)), putRule("@a:home", "override", "three", count(3)), joins("$1", "!r", "@a:home"))
	a.wants("E3", joins("$2", "!r", "@b:home"), placed(2, toldOf("@a:home", "override/two", true, false, "")))
	a.wants("E3", joins("$3", "!r", "@c:away"), placed(3, toldOf("@a:home", "override/three", true, false, ""), silent("@b:home")))
	a.wants("E3", member("$4", "!r", "@c:away", "leave"), placed(4, toldOf("@a:home", "override/two", true, false, ""), silent("@b:home")))
	// The display that comes by the event itself, and the needs.
	a.does(`{"do":"enable_rule","user":"@b:home","kind":"override","id":".member","enabled":false}`, joins("$5", "!s", "@b:home"))
	a.wants("E3", event("$6", "!s", "@x:home", "m.room.member", `"state_key":"@b:home","content":{"membership":"join","displayname":"Bea","body":"here is bea"}`),
		placed(6, toldOf("@b:home", "override/.name", true, true, "default")))
	all := `"state_key":"","content":{"users":{"@x:home":20},"notifications":{"room":20},"m.mentions":{"room":true}}`
	a.wants("E3", event("$7", "!s", "@x:home", "m.room.power_levels", all), placed(7, toldOf("@b:home", "override/.everybody", true, true, "")))
}

func TestVerdictsAndWhatIsCounted(t *testing.T) { // E3, P7
	for _, c := range []struct {
		actions, told     string
		unread, highlight int
	}{
		{`[]`, toldOf("@a:home", "override/always", false, false, ""), 0, 0},
		{`["notify"]`, toldOf("@a:home", "override/always", true, false, ""), 1, 0},
		{`["notify",{"set_tweak":"highlight"}]`, toldOf("@a:home", "override/always", true, true, ""), 1, 1},
		{`["notify",{"set_tweak":"sound","value":"bell"}]`, toldOf("@a:home", "override/always", true, false, "bell"), 1, 0},
		{`["notify",{"set_tweak":"sound","value":"bell"},{"set_tweak":"highlight"}]`, toldOf("@a:home", "override/always", true, true, "bell"), 1, 1},
		{`[{"set_tweak":"highlight"}]`, toldOf("@a:home", "override/always", false, true, ""), 0, 0},
		{`[{"set_tweak":"sound","value":"bell"}]`, toldOf("@a:home", "override/always", false, false, "bell"), 0, 0},
	} {
		a := newAsker(t)
		a.does(joins("$1", "!r", "@a:home"), always("@a:home", c.actions), setPusher("@a:home", "k"))
		a.wants("E3", event("$2", "!r", "@b:home", "x", `"content":{}`), placed(2, c.told))
		a.wants("E3, P7", countsIn("@a:home", "!r"), counters(c.unread, c.highlight))
		if n := a.does(tick(0)).Get("attempts").Len(); n != c.unread {
			t.Errorf("E3, P10: %s: %d attempts", c.actions, n)
		}
	}
	a := newAsker(t)
	a.does(joins("$1", "!r", "@a:home"))
	a.wants("E3", event("$2", "!r", "@b:home", "x", `"content":{}`), placed(2, toldOf("@a:home", "", false, false, ""))) // by no rule
}

func TestNotesOfPushers(t *testing.T) { // E3, P10
	a := newAsker(t)
	a.does(joins("$1", "!r", "@a:home"), joins("$2", "!s", "@a:home"), always("@a:home", `["notify",{"set_tweak":"sound","value":"bell"}]`), `{"do":"set_pusher","user":"@a:home","key":"k","format":"full"}`)
	body := func(id, room string) string {
		return `{"content":{"n":1},"event_id":"` + id + `","more":[null],"room_id":"` + room + `","sender":"@b:home","type":"x"}`
	}
	want := func(id, room string, unread int) {
		t.Helper()
		attempt := a.does(tick(0)).Get("attempts").Item(0)
		if got, want := attempt.Get("payload").Text(), fmt.Sprintf(`{"counts":{"unread":%d},"event":%s,"tweaks":{"sound":"bell"}}`, unread, body(id, room)); got != want {
			t.Errorf("E3: a note %s, want %s", got, want)
		}
		a.does(reply(int(attempt.Get("id").Number()), "ok"))
	}
	for _, c := range [][2]string{{"$3", "!r"}, {"$4", "!s"}, {"$5", "!r"}} {
		a.does(`{"do":"event","event":` + body(c[0], c[1]) + `}`)
	}
	a.does(receipt("@a:home", "!r", "$5"), `{"do":"event","event":`+body("$6", "!r")+`}`)
	want("$3", "!r", 1)
	want("$4", "!s", 1) // the counter is that of the room
	want("$5", "!r", 2)
	want("$6", "!r", 1)
}

func TestLeaving(t *testing.T) { // E3, P7
	for _, how := range []string{
		member("$9", "!r", "@a:home", "leave"), member("$9", "!r", "@a:home", "ban"), member("$9", "!r", "@a:home", "invite"), member("$9", "!r", "@a:home", "x"),
		event("$9", "!r", "@b:away", "m.room.member", `"state_key":"@a:home","content":{}`), event("$9", "!r", "@b:away", "m.room.member", `"state_key":"@a:home","content":{"membership":1}`),
	} {
		a := newAsker(t)
		a.does(joins("$1", "!r", "@a:home"), joins("$2", "!s", "@a:home"), joins("$3", "!r", "@c:home"), setPusher("@a:home", "k"),
			message("$4", "!r", "@b:away", "hello a"), message("$5", "!s", "@b:away", "hello a"))
		if n := a.does(how).Get("told").Len(); n != 1 {
			t.Errorf("E3: %s: %d are asked", how, n)
		}
		a.wants("E3, P7", countsIn("@a:home", "!r"), counters(0, 0))
		a.wants("E3, P7", countsOf("@a:home"), `{"ok":true,"rooms":[{"highlight":1,"room":"!s","unread":1}]}`)
		a.wants("E8", countsIn("@c:home", "!r"), counters(1, 0))
		a.wants("E2", receipt("@a:home", "!r", "$4"), `{"changed":false,"ok":true}`) // the mark stands behind it
		a.does(message("$10", "!r", "@b:away", "hello a"))
		a.wants("E3, P7", countsIn("@a:home", "!r"), counters(0, 0))
		a.does(joins("$11", "!r", "@a:home"), message("$12", "!r", "@b:away", "hello a"))
		a.wants("P7", countsIn("@a:home", "!r"), counters(1, 1))
		if n := a.does(pushersOf("@a:home")).Get("pushers").Item(0).Get("waits").Number(); n != 3 {
			t.Errorf("E3, P10: %d notes wait", n) // those of a room that was left, too
		}
	}
}

func TestOnlyWhoWasAMemberLeaves(t *testing.T) { // E3, E7
	a := newAsker(t)
	a.does(joins("$1", "!r", "@c:home"), member("$2", "!r", "@a:home", "leave"), member("$3", "!r", "@a:home", "ban"), joins("$4", "!r", "@b:away"), member("$5", "!r", "@b:away", "leave"), joins("$6", "!r", "@c:home"))
	// Nobody has a mark: who was none before it, who is not local, who joins again.
	if want := counted() + counted() + saidNumber(1) + counted(); !strings.HasSuffix(string(a.engine.Save()), want) {
		t.Errorf("E3: there are marks in %q", a.engine.Save())
	}
	a.does(message("$7", "!r", "@x:away", "hello"), event("$8", "!r", "@c:home", "m.room.member", `"state_key":"@c:home","content":{"membership":"join","displayname":"Cat"}`))
	a.wants("E3, P7", countsIn("@c:home", "!r"), counters(1, 0))
}

func TestRedactions(t *testing.T) { // E3, P7
	a := newAsker(t)
	a.does(joins("$1", "!r", "@a:home"), joins("$2", "!s", "@a:home"), message("$3", "!r", "@b:away", "hello a"), message("$4", "!r", "@b:away", "hello"))
	a.wants("P7", countsIn("@a:home", "!r"), counters(2, 1))
	a.does(redaction("$5", "!s", "@b:away", "$3")) // which is of another room
	a.wants("E3", countsIn("@a:home", "!r"), counters(2, 1))
	a.does(redaction("$6", "!r", "@b:away", "$x")) // which is not there
	a.does(event("$7", "!r", "@b:away", "m.room.message", `"redacts":"$3","content":{"msgtype":"m.notice"}`), event("$8", "!r", "@b:away", "m.room.redaction", `"content":{}`))
	a.wants("E3", countsIn("@a:home", "!r"), counters(2, 1))
	a.wants("E3", redaction("$9", "!r", "@b:away", "$3"), placed(9, toldOf("@a:home", "", false, false, "")))
	a.wants("E3, P7", countsIn("@a:home", "!r"), counters(1, 0))
	a.does(redaction("$10", "!r", "@b:away", "$3")) // once more
	a.wants("E3, P7", countsIn("@a:home", "!r"), counters(1, 0))
	a.does(redaction("$11", "!r", "@b:away", "$12"), message("$12", "!r", "@b:away", "hello")) // it came too soon
	a.wants("E3, P7", countsIn("@a:home", "!r"), counters(2, 0))
	a.does(receipt("@a:home", "!r", "$3")) // what is taken back may be read
	a.wants("E3, P7", countsIn("@a:home", "!r"), counters(2, 0))
}

func TestRedactionsThatAreNotes(t *testing.T) { // E3
	a := newAsker(t)
	a.does(joins("$1", "!r", "@a:home"), always("@a:home", `["notify"]`), setPusher("@a:home", "k"), message("$2", "!r", "@b:away", "hello"))
	a.wants("E3", redaction("$3", "!r", "@b:away", "$2"), placed(3, toldOf("@a:home", "override/always", true, false, "")))
	a.wants("E3, P7", countsIn("@a:home", "!r"), counters(1, 0))
	// One that takes itself back is no note, but pushers hear of it.
	a.wants("E3", redaction("$4", "!r", "@b:away", "$4"), placed(4, toldOf("@a:home", "override/always", true, false, "")))
	a.wants("E3, P7", countsIn("@a:home", "!r"), counters(1, 0))
	var heard []string
	for n := range 3 {
		attempt := a.does(tick(n)).Get("attempts").Item(0)
		heard = append(heard, attempt.Get("payload").Text())
		a.does(reply(n+1, "ok"))
	}
	want := []string{`{"counts":{"unread":1},"event_id":"$2","room_id":"!r"}`, `{"counts":{"unread":1},"event_id":"$3","room_id":"!r"}`, `{"counts":{"unread":1},"event_id":"$4","room_id":"!r"}`}
	if !slices.Equal(heard, want) {
		t.Errorf("E3, P10: the pusher hears %v", heard)
	}
}
