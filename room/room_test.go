package room

import (
	"fmt"
	"slices"
	"strings"
	"testing"

	"tocsin/api"
	"tocsin/cond"
	"tocsin/jsonval"
	"tocsin/wire"
)

// The calls as they were given.
var (
	_ func(*jsonval.Value) (*Event, api.Errno) = ReadEvent
	_ func(string) bool                        = IsUser
	_ func(string) bool                        = IsRoom
	_ func(string) bool                        = IsEvent
	_ func(string) bool                        = Local
	_ func(string) (*Room, api.Errno)          = New
	_ func(*Room, *Event) api.Errno            = (*Room).May
	_ func(*Room, *Event) (bool, api.Errno)    = (*Room).Apply
	_ func(*Room) []string                     = (*Room).Joined
	_ func(*Room, string) bool                 = (*Room).Is
	_ func(*Room, string) int                  = (*Room).Level
	_ func(*Room, *Event, string) cond.Facts   = (*Room).Facts
	_ func(*Room) *jsonval.Value               = (*Room).Print
	_ func(*Room, *wire.Writer)                = (*Room).Save
	_ func(*wire.Reader) (*Room, api.Errno)    = Load
	_                                          = Event{ID: "", Room: "", Sender: "", Type: "", State: false, Key: "", Redacts: "", Body: (*jsonval.Value)(nil)}
)

const (
	member = "m.room.member"
	create = "m.room.create"
	powers = "m.room.power_levels"
)

func value(t testing.TB, text string) *jsonval.Value {
	t.Helper()
	v, err := jsonval.Parse([]byte(text))
	if err != nil {
		t.Fatalf("J1: Parse(%s): %v", text, err)
	}
	return v
}

// read reads an event that is one.
func read(t testing.TB, text string) *Event {
	t.Helper()
	e, errno := ReadEvent(value(t, text))
	if e == nil || errno != api.OK {
		t.Fatalf("O1: ReadEvent(%s): %v, %d; want an event, OK", text, e != nil, errno)
	}
	return e
}

// state is an event of state of !r, by @a:home.
func state(t testing.TB, kind, key, content string) *Event {
	t.Helper()
	return stateBy(t, "@a:home", kind, key, content)
}

func stateBy(t testing.TB, sender, kind, key, content string) *Event {
	t.Helper()
	return read(t, `{"event_id":"$1","room_id":"!r","sender":"`+sender+`","type":"`+kind+`","state_key":"`+key+`","content":`+content+`}`)
}

// message is an event of !r that is none of state.
func message(t testing.TB, kind, content string) *Event {
	t.Helper()
	return read(t, `{"event_id":"$1","room_id":"!r","sender":"@a:home","type":"`+kind+`","content":`+content+`}`)
}

// made makes a room that has taken events in.
func made(t testing.TB, events ...*Event) *Room {
	t.Helper()
	r, errno := New("!r")
	if r == nil || errno != api.OK {
		t.Fatalf("O2: New(!r): %v, %d; want a room, OK", r != nil, errno)
	}
	for _, e := range events {
		if _, errno := r.Apply(e); errno != api.OK {
			t.Fatalf("O3: Apply(%s): %d", e.Body.Print(), errno)
		}
	}
	return r
}

func saved(r *Room) string {
	w := wire.NewWriter()
	r.Save(w)
	return string(w.Bytes())
}

// all is everything that is to be seen of a room.
func all(r *Room) string {
	s := fmt.Sprintf("%s %q %q", r.Print().Print(), r.Joined(), saved(r))
	for _, user := range []string{"", "@a:home", "@b:home", "@c:away", "@d:home"} {
		f := r.Facts(&Event{Sender: user}, user)
		s += fmt.Sprintf("\n%s: %v %d %d %q %d %v", user, r.Is(user), r.Level(user), f.Joined, f.Display, f.Level, f.Needs)
	}
	return s
}

// applies wants that an event is taken in, and whether anything becomes another by it; and that this is to be seen.
func applies(t testing.TB, r *Room, e *Event, want bool) {
	t.Helper()
	old := all(r)
	if errno := r.May(e); errno != api.OK {
		t.Errorf("O3: May(%s): %d, want OK", e.Body.Print(), errno)
	}
	if all(r) != old {
		t.Errorf("O3: May(%s) changes\n%s to\n%s", e.Body.Print(), old, all(r))
	}
	if changed, errno := r.Apply(e); changed != want || errno != api.OK {
		t.Errorf("O3: Apply(%s): %v, %d; want %v, OK", e.Body.Print(), changed, errno, want)
	}
	if changed := all(r) != old; changed != want {
		t.Errorf("O3: Apply(%s) has changed something: %v, want %v; behind it\n%s", e.Body.Print(), changed, want, all(r))
	}
	// The same again changes nothing.
	old = all(r)
	if changed, errno := r.Apply(e); changed || errno != api.OK || all(r) != old {
		t.Errorf("O3: Apply(%s) again: %v, %d; want false, OK", e.Body.Print(), changed, errno)
	}
}

// refuses wants that an event is refused, and that nothing is changed by that.
func refuses(t testing.TB, r *Room, e *Event, want api.Errno) {
	t.Helper()
	old := all(r)
	if errno := r.May(e); errno != want {
		t.Errorf("O3: May: %d, want %d", errno, want)
	}
	if changed, errno := r.Apply(e); changed || errno != want {
		t.Errorf("O3, P2: Apply: %v, %d; want false, %d", changed, errno, want)
	}
	if all(r) != old {
		t.Errorf("O3, P2: what is refused changes\n%s to\n%s", old, all(r))
	}
}

func printed(t testing.TB, r *Room, want string) {
	t.Helper()
	if got := r.Print().Print(); got != want {
		t.Errorf("O6: printed as\n%s, want\n%s", got, want)
	}
}

func TestExamples(t *testing.T) {
	for name, want := range map[string]bool{"@a:home": true, "@a.b=c/d-e_f:x.y-z": true, "@A:home": false, "@:home": false, "@a": false, "@a:": false, "a:home": false, "@a:home:1": false} {
		if IsUser(name) != want {
			t.Errorf("O1: IsUser(%q): %v, want %v", name, !want, want)
		}
	}
	if !IsRoom("!Ab:c") || IsRoom("!") {
		t.Error("O1: IsRoom(!Ab:c) is true, IsRoom(!) is not")
	}

	text := `{"event_id":"$1","room_id":"!r","sender":"@a:home","type":"m.room.message","content":{}}`
	if e := read(t, text); e.State {
		t.Error("O1: a message is one of state")
	}
	reads(t, strings.Replace(text, `"content"`, `"state_key":null,"content"`, 1), api.ErrEvent)
	reads(t, strings.Replace(text, "@a:home", "@a", 1), api.ErrID)

	r := made(t)
	joins := state(t, member, "@b:home", `{"membership":"join","displayname":"Bea"}`)
	if changed, errno := r.Apply(joins); !changed || errno != api.OK {
		t.Errorf("O3: Apply: %v, %d; want true, OK", changed, errno)
	}
	if changed, errno := r.Apply(joins); changed || errno != api.OK {
		t.Errorf("O3: Apply again: %v, %d; want false, OK", changed, errno)
	}
	if got := r.Facts(joins, "@b:home").Display; got != "Bea" {
		t.Errorf("O5: the display is %q, want Bea", got)
	}
	if changed, errno := r.Apply(state(t, member, "@b:home", `{"membership":"knock"}`)); !changed || errno != api.OK {
		t.Errorf("O3: Apply: %v, %d; want true, OK", changed, errno)
	}
	if got := r.Facts(joins, "@b:home").Display; got != "" {
		t.Errorf("O5: the display is %q, want none", got)
	}
	printed(t, r, `{"creator":"","default":0,"id":"!r","joined":0,"leveled":false,"levels":{},"needs":{},"users":{"@b:home":{"display":"","membership":"leave"}}}`)

	r = made(t, state(t, powers, "", `{"users":{"@a:home":60,"@b:home":"x"},"users_default":5,"notifications":{"room":20}}`))
	for user, want := range map[string]int{"@a:home": 60, "@b:home": 5, "": 5} {
		if got := r.Level(user); got != want {
			t.Errorf("O4: Level(%q): %d, want %d", user, got, want)
		}
	}
	if needs := r.Facts(joins, "").Needs; len(needs) != 1 || needs["room"] != 20 {
		t.Errorf("O5: Needs: %v, want room 20", needs)
	}
}

func TestUsersNames(t *testing.T) {
	check := func(name string, want bool) {
		t.Helper()
		if IsUser(name) != want {
			t.Errorf("O1: IsUser(%q): %v, want %v", name, !want, want)
		}
	}
	for c := range 256 {
		sign := string([]byte{byte(c)})
		small := 'a' <= c && c <= 'z' || '0' <= c && c <= '9'
		local := small || strings.ContainsAny(sign, "._-=/") && c < 128
		host := small || c == '.' || c == '-'
		check("@"+sign+":h", local)
		check("@a"+sign+":h", local)
		check("@"+sign+"a:h", local)
		check("@a"+sign+"a:h", local)
		check("@a:"+sign, host)
		check("@a:h"+sign, host)
		check("@a:"+sign+"h", host)
		check("@a:h"+sign+"h", host)
		check(sign+"a:h", c == '@')
		check("@a"+sign+"h", c == ':')
		check("@a:h"+sign+":h", false)
	}
	for _, name := range []string{"", "@", ":", "@:", "a", "@a", "@a:", "@:h", "a:h", "@@a:h", " @a:h", "@a:h ", "@a:h\n", "@a: h", "@a::h", "@a:h:", "@a:h:1", "@é:h", "@a:é", "@a:h\u2028", "@ａ:h", "@ſ:h", "@K:h", "!a:h", "$a:h", "@a\x00:h", "@a:h\x00"} {
		check(name, false)
	}
	// Sixty bytes, and one more, wherever it stands.
	for n := 1; n <= 57; n++ {
		local, host := strings.Repeat("a", n), strings.Repeat("h", 58-n)
		check("@"+local+":"+host, true)
		check("@"+local+"a:"+host, false)
		check("@"+local+":h"+host, false)
	}
	check("@"+strings.Repeat("a", 1<<20)+":home", false)
	check(strings.Repeat("@", 1<<20), false)
}

func TestLocal(t *testing.T) {
	for name, want := range map[string]bool{
		"@a:home": true, "@0.=/_-:home": true, "@home:home": true, "@" + strings.Repeat("a", 54) + ":home": true,
		"@a:away": false, "@a:hom": false, "@a:homes": false, "@a:home.home": false, "@a:home.": false, "@a:.home": false, "@a:h": false, "@home:a": false, "@a.home:x": false,
		"@a:Home": false, "@A:home": false, "@:home": false, ":home": false, "home": false, "a:home": false, "": false, "@a:x:home": false, "@a:home:home": false, "!a:home": false, "@a:home ": false, "@a": false, "@a:": false,
		"@" + strings.Repeat("a", 55) + ":home": false,
	} {
		if Local(name) != want {
			t.Errorf("O1: Local(%q): %v, want %v", name, !want, want)
		}
	}
}

func TestRoomsAndEventsNames(t *testing.T) {
	check := func(rest string, want bool) {
		t.Helper()
		for _, c := range []struct {
			name        string
			room, event bool
		}{{"!" + rest, want, false}, {"$" + rest, false, want}, {"@" + rest, false, false}, {"#" + rest, false, false}} {
			if IsRoom(c.name) != c.room || IsEvent(c.name) != c.event {
				t.Errorf("O1: %q: a room's name %v, an event's %v; want %v, %v", c.name, IsRoom(c.name), IsEvent(c.name), c.room, c.event)
			}
		}
		if errno := newErrno(t, "!"+rest); (errno == api.OK) != want {
			t.Errorf("O2: New(%q): %d", "!"+rest, errno)
		}
	}
	for c := range 256 {
		sign := string([]byte{byte(c)})
		ok := 'a' <= c && c <= 'z' || 'A' <= c && c <= 'Z' || '0' <= c && c <= '9' || c < 128 && strings.ContainsAny(sign, "._-=/:")
		check(sign, ok)
		check("a"+sign, ok)
		check(sign+"a", ok)
		check("a"+sign+"a", ok)
	}
	check("", false)
	check(strings.Repeat("r", 59), true)
	check(strings.Repeat("r", 60), false)
	check(strings.Repeat("é", 2), false)
	check(strings.Repeat("r", 1<<20), false)
	check("Ab:c", true)
	check("::", true)
	check("@a:home", false)
	for _, name := range []string{"", "a", "r:home", "a!", "a$", " !a", " $a", "!!a", "$$a", "!$a", "$!a"} {
		if IsRoom(name) || IsEvent(name) {
			t.Errorf("O1: %q is a name", name)
		}
		newErrno(t, name)
	}
}

// newErrno makes a room, and wants that it is there just if there is no error.
func newErrno(t testing.TB, id string) api.Errno {
	t.Helper()
	r, errno := New(id)
	if (r != nil) != (errno == api.OK) || errno != api.OK && errno != api.ErrID || (errno == api.OK) != IsRoom(id) {
		t.Errorf("O2, P2: New(%q): %v, %d", id, r != nil, errno)
	}
	return errno
}

func TestNew(t *testing.T) {
	for _, id := range []string{"!r", "!Ab:c", "!" + strings.Repeat("Z", 59)} {
		r, errno := New(id)
		if r == nil || errno != api.OK {
			t.Fatalf("O2: New(%q): %d", id, errno)
		}
		printed(t, r, `{"creator":"","default":0,"id":"`+id+`","joined":0,"leveled":false,"levels":{},"needs":{},"users":{}}`)
		if len(r.Joined()) != 0 || r.Is("") || r.Is("@a:home") || r.Level("") != 0 || r.Level("@a:home") != 0 {
			t.Errorf("O2: somebody is known in a new room %q", id)
		}
		f := r.Facts(read(t, `{"event_id":"$1","room_id":"!r","sender":"@a:home","type":"x","content":{}}`), "@a:home")
		if f.Joined != 0 || f.Display != "" || f.Level != 0 || len(f.Needs) != 0 {
			t.Errorf("O2, O5: the facts of a new room are %+v", f)
		}
	}
}

func TestMembership(t *testing.T) {
	content := map[string]string{
		`{"membership":"join"}`: "join", `{"membership":"leave"}`: "leave", `{"membership":"invite"}`: "invite", `{"membership":"ban"}`: "ban",
		`{}`: "leave", `{"membership":""}`: "leave", `{"membership":"knock"}`: "leave", `{"membership":"Join"}`: "leave", `{"membership":"JOIN"}`: "leave", `{"membership":"join "}`: "leave", `{"membership":"joi"}`: "leave", `{"membership":"joined"}`: "leave",
		`{"membership":null}`: "leave", `{"membership":true}`: "leave", `{"membership":1}`: "leave", `{"membership":["join"]}`: "leave", `{"membership":{"join":"join"}}`: "leave", `{"Membership":"join"}`: "leave", `{"membership":"1"}`: "leave", `{"more":{"membership":"join"}}`: "leave",
	}
	for first, was := range content {
		r := made(t)
		applies(t, r, state(t, member, "@b:home", first), true)
		printed(t, r, `{"creator":"","default":0,"id":"!r","joined":`+map[bool]string{true: "1", false: "0"}[was == "join"]+`,"leveled":false,"levels":{},"needs":{},"users":{"@b:home":{"display":"","membership":"`+was+`"}}}`)
		if r.Is("@b:home") != (was == "join") || len(r.Joined()) == 1 != (was == "join") {
			t.Errorf("O4: with %s a member: %v", first, r.Is("@b:home"))
		}
		for second, is := range content {
			applies(t, r, state(t, member, "@b:home", second), is != was)
			applies(t, r, state(t, member, "@b:home", first), is != was)
		}
	}
}

func TestDisplay(t *testing.T) {
	content := map[string]string{
		`"displayname":"Bea"`: "Bea", `"displayname":"bea"`: "bea", `"displayname":" "`: " ", `"displayname":"é\u0000\ud83d\ude00"`: "é\x00😀", `"displayname":"` + strings.Repeat("x", 3000) + `"`: strings.Repeat("x", 3000), `"displayname":"null"`: "null",
		`"x":0`: "", `"displayname":""`: "", `"displayname":null`: "", `"displayname":true`: "", `"displayname":5`: "", `"displayname":["Bea"]`: "", `"displayname":{"Bea":"Bea"}`: "", `"Displayname":"Bea"`: "", `"display":"Bea"`: "",
	}
	e := message(t, "x", `{}`)
	for first, was := range content {
		for second, is := range content {
			r := made(t)
			applies(t, r, state(t, member, "@b:home", `{"membership":"join",`+first+`}`), true)
			if got := r.Facts(e, "@b:home").Display; got != was {
				t.Errorf("O5: with %s the display is %q, want %q", first, got, was)
			}
			applies(t, r, state(t, member, "@b:home", `{"membership":"join",`+second+`}`), is != was)
			if got := r.Facts(e, "@b:home").Display; got != is {
				t.Errorf("O5: with %s the display is %q, want %q", second, got, is)
			}
		}
		// Who has not joined has none, and no other one either.
		for _, how := range []string{"leave", "invite", "ban", "knock"} {
			r := made(t, state(t, member, "@b:home", `{"membership":"join","displayname":"Old"}`))
			applies(t, r, state(t, member, "@b:home", `{"membership":"`+how+`",`+first+`}`), true)
			if got := r.Facts(e, "@b:home").Display; got != "" {
				t.Errorf("O5: with %s and %s the display is %q, want none", how, first, got)
			}
			applies(t, r, state(t, member, "@b:home", `{"membership":"`+how+`","displayname":"New"}`), false)
			applies(t, r, state(t, member, "@b:home", `{"membership":"`+how+`"}`), false)
			// Nor is the old one there, when it joins again.
			applies(t, r, state(t, member, "@b:home", `{"membership":"join"}`), true)
			if got := r.Facts(e, "@b:home").Display; got != "" {
				t.Errorf("O5: behind %s the display is %q again", how, got)
			}
		}
	}
}

func TestWhoseMembership(t *testing.T) {
	joins := `{"membership":"join","displayname":"D"}`
	r := made(t, state(t, member, "@b:home", `{"membership":"join"}`))
	// The sender may be anybody; what counts is the key.
	applies(t, r, stateBy(t, "@x:away", member, "@c:away", joins), true)
	applies(t, r, stateBy(t, "@y:away", member, "@c:away", joins), false)
	if got := r.Joined(); !slices.Equal(got, []string{"@b:home", "@c:away"}) {
		t.Errorf("O4: %q", got)
	}
	// Keys that are no users' names; other types; events that are none of state.
	for _, key := range []string{"", "b", "@b", "@b:", "@B:home", "@:home", "@b:home:1", "!r", "$1", "no name", "é", strings.Repeat("@", 60)} {
		applies(t, r, state(t, member, key, joins), false)
	}
	for _, kind := range []string{"m.room.members", "m.room.membe", "M.room.member", "m.room.message", "member", "x", create, powers, redaction} {
		applies(t, r, state(t, kind, "@d:home", joins), false)
		applies(t, r, state(t, kind, "@b:home", joins), false)
	}
	applies(t, r, message(t, member, joins), false)
	applies(t, r, message(t, member, `{"membership":"join","state_key":"@d:home"}`), false)
	applies(t, r, read(t, `{"event_id":"$1","room_id":"!r","sender":"@d:home","type":"m.room.member","key":"@d:home","membership":"join","content":{"membership":"join"}}`), false)
	// The content counts, not the event's other members.
	applies(t, r, read(t, `{"event_id":"$1","room_id":"!r","sender":"@d:home","type":"m.room.member","state_key":"@d:home","membership":"join","displayname":"D","content":{}}`), true)
	if r.Is("@d:home") {
		t.Error("O3: what stands outside of the content counts")
	}
}

func TestForeign(t *testing.T) {
	r := made(t, state(t, member, "@b:home", `{"membership":"join"}`))
	for _, id := range []string{"!s", "!R", "!rr", "!r:home", "!r."} {
		for _, rest := range []string{
			`"type":"x"`, `"type":"m.room.member","state_key":"@c:home"`, `"type":"m.room.member","state_key":"@b:home"`, `"type":"m.room.create","state_key":""`, `"type":"m.room.power_levels","state_key":""`,
		} {
			refuses(t, r, read(t, `{"event_id":"$1","room_id":"`+id+`","sender":"@a:home","content":{},`+rest+`}`), api.ErrForeign)
		}
	}
}

// nth is the name of the n-th user.
func nth(n int) string { return fmt.Sprintf("@u%02d:home", n) }

func TestUsers(t *testing.T) {
	how := []string{"join", "leave", "invite", "ban", "knock"}
	joins := `{"membership":"join"}`
	r := made(t)
	for n := range 60 {
		applies(t, r, state(t, member, nth(n), `{"membership":"`+how[n%5]+`"}`), true)
	}
	for _, word := range how {
		refuses(t, r, state(t, member, nth(60), `{"membership":"`+word+`"}`), api.ErrUsers)
	}
	refuses(t, r, stateBy(t, nth(0), member, "@a:away", `{}`), api.ErrUsers)
	if got := len(r.Joined()); got != 12 {
		t.Errorf("O4: %d members, want 12", got)
	}
	// ErrForeign is told ahead of ErrUsers.
	refuses(t, r, read(t, `{"event_id":"$1","room_id":"!s","sender":"@a:home","type":"m.room.member","state_key":"@more:home","content":{}}`), api.ErrForeign)
	// All else goes on: those who are known, other types, keys and messages.
	for n := range 60 {
		applies(t, r, state(t, member, nth(n), joins), n%5 != 0)
	}
	applies(t, r, state(t, member, "more", joins), false)
	applies(t, r, state(t, "x", nth(60), joins), false)
	applies(t, r, message(t, member, joins), false)
	applies(t, r, state(t, create, "", `{}`), true)
	applies(t, r, state(t, powers, "", `{"users":{"@more:home":7}}`), true)
	// No one is forgotten who has left: there is no place for others by that.
	for n := range 60 {
		applies(t, r, state(t, member, nth(n), `{}`), true)
	}
	refuses(t, r, state(t, member, nth(60), joins), api.ErrUsers)
	if got := len(r.Joined()); got != 0 {
		t.Errorf("O4: %d members, want 0", got)
	}
	// With fifty-nine there is a place.
	r = made(t)
	for n := range 59 {
		applies(t, r, state(t, member, nth(n), joins), true)
	}
	applies(t, r, state(t, member, nth(59), joins), true)
	refuses(t, r, state(t, member, nth(60), joins), api.ErrUsers)
}

func TestCreator(t *testing.T) {
	r := made(t)
	// With a key, as another type, or none of state: nothing.
	applies(t, r, state(t, create, "x", `{}`), false)
	applies(t, r, state(t, create, "@a:home", `{}`), false)
	applies(t, r, message(t, create, `{}`), false)
	applies(t, r, state(t, "m.room.creates", "", `{}`), false)
	applies(t, r, state(t, "m.room.creat", "", `{}`), false)
	if r.Level("@a:home") != 0 {
		t.Error("O3: there is a creator")
	}
	applies(t, r, stateBy(t, "@b:home", create, "", `{"creator":"@c:home"}`), true)
	// A second one does not count, nor does the first one leave.
	applies(t, r, stateBy(t, "@c:home", create, "", `{}`), false)
	printed(t, r, `{"creator":"@b:home","default":0,"id":"!r","joined":0,"leveled":false,"levels":{},"needs":{},"users":{}}`)
	applies(t, r, state(t, member, "@b:home", `{"membership":"ban"}`), true)
	applies(t, r, stateBy(t, "@c:home", create, "", `{}`), false)
	if r.Level("@b:home") != 100 || r.Level("@c:home") != 0 {
		t.Errorf("O4: levels %d, %d; want 100, 0", r.Level("@b:home"), r.Level("@c:home"))
	}
	// Behind levels there may come one, too.
	r = made(t, state(t, powers, "", `{}`))
	applies(t, r, stateBy(t, "@x:away", create, "", `{}`), true)
	printed(t, r, `{"creator":"@x:away","default":0,"id":"!r","joined":0,"leveled":true,"levels":{},"needs":{},"users":{}}`)
	if r.Level("@x:away") != 0 {
		t.Error("O4: behind levels the creator has no more than they say")
	}
}

func TestLevels(t *testing.T) {
	r := made(t)
	some := `{"users":{"@a:home":60},"users_default":5,"notifications":{"room":20}}`
	// With a key, as another type, or none of state: nothing.
	applies(t, r, state(t, powers, "x", some), false)
	applies(t, r, state(t, powers, "@a:home", some), false)
	applies(t, r, message(t, powers, some), false)
	applies(t, r, state(t, "m.room.power_level", "", some), false)
	applies(t, r, state(t, "m.room.power_levels.", "", some), false)
	// What comes, comes in the place of all that was there.
	const ahead, behind = `{"creator":"","default":`, `,"users":{}}`
	for _, c := range []struct {
		content, want string
		changes       bool
	}{
		{`{}`, `0,"id":"!r","joined":0,"leveled":true,"levels":{},"needs":{}`, true},
		{`{"x":1,"ban":50}`, `0,"id":"!r","joined":0,"leveled":true,"levels":{},"needs":{}`, false},
		{`{"users_default":0,"users":{},"notifications":{}}`, `0,"id":"!r","joined":0,"leveled":true,"levels":{},"needs":{}`, false},
		{some, `5,"id":"!r","joined":0,"leveled":true,"levels":{"@a:home":60},"needs":{"room":20}`, true},
		{`{"notifications":{"room":20,"x":null},"users":{"@a:home":60,"@b:home":"6","c":7},"users_default":5,"z":[]}`, `5,"id":"!r","joined":0,"leveled":true,"levels":{"@a:home":60},"needs":{"room":20}`, false},
		{`{"users_default":5,"notifications":{"room":20}}`, `5,"id":"!r","joined":0,"leveled":true,"levels":{},"needs":{"room":20}`, true},
		{`{"users":{"@a:home":5},"users_default":5,"notifications":{"room":20}}`, `5,"id":"!r","joined":0,"leveled":true,"levels":{"@a:home":5},"needs":{"room":20}`, true},
		{`{"users":{"@a:home":5},"notifications":{"room":20}}`, `0,"id":"!r","joined":0,"leveled":true,"levels":{"@a:home":5},"needs":{"room":20}`, true},
		{`{"users":{"@b:home":5},"notifications":{"room":20}}`, `0,"id":"!r","joined":0,"leveled":true,"levels":{"@b:home":5},"needs":{"room":20}`, true},
		{`{"users":{"@b:home":6},"notifications":{"room":20}}`, `0,"id":"!r","joined":0,"leveled":true,"levels":{"@b:home":6},"needs":{"room":20}`, true},
		{`{"users":{"@b:home":6},"notifications":{"room":21}}`, `0,"id":"!r","joined":0,"leveled":true,"levels":{"@b:home":6},"needs":{"room":21}`, true},
		{`{"users":{"@b:home":6},"notifications":{"rooms":21}}`, `0,"id":"!r","joined":0,"leveled":true,"levels":{"@b:home":6},"needs":{"rooms":21}`, true},
		{`{"users":{"@b:home":6},"notifications":{"":21,"rooms":21}}`, `0,"id":"!r","joined":0,"leveled":true,"levels":{"@b:home":6},"needs":{"":21,"rooms":21}`, true},
		{`{"users":{"@b:home":0},"notifications":{"":0}}`, `0,"id":"!r","joined":0,"leveled":true,"levels":{"@b:home":0},"needs":{"":0}`, true},
		{`{}`, `0,"id":"!r","joined":0,"leveled":true,"levels":{},"needs":{}`, true},
	} {
		applies(t, r, state(t, powers, "", c.content), c.changes)
		printed(t, r, ahead+c.want+behind)
	}
}

func TestLevelsNumbers(t *testing.T) {
	numbers := map[string]int{"-1000": -1000, "-999": -999, "-1": -1, "1": 1, "50": 50, "999": 999, "1000": 1000}
	none := []string{"-1001", "1001", "9007199254740991", "-9007199254740991", "4294967297", "null", "true", "false", `"5"`, `""`, "[]", "[5]", "{}", `{"x":5}`}
	at := func(number string) *Room {
		r := made(t)
		applies(t, r, state(t, powers, "", `{"users":{"@a:home":`+number+`,"@b:home":7},"users_default":`+number+`,"notifications":{"room":`+number+`,"x":8}}`), true)
		if f := r.Facts(message(t, "x", `{}`), ""); r.Level("@b:home") != 7 || f.Needs["x"] != 8 {
			t.Errorf("O3: beside %s: %d, %d", number, r.Level("@b:home"), f.Needs["x"])
		}
		return r
	}
	for number, n := range numbers {
		r := at(number)
		f := r.Facts(message(t, "x", `{}`), "")
		if r.Level("@a:home") != n || r.Level("@c:home") != n || f.Level != n || len(f.Needs) != 2 || f.Needs["room"] != n {
			t.Errorf("O3: with %s: %d, %d, %v", number, r.Level("@a:home"), r.Level("@c:home"), f.Needs)
		}
		printed(t, r, strings.ReplaceAll(`{"creator":"","default":N,"id":"!r","joined":0,"leveled":true,"levels":{"@a:home":N,"@b:home":7},"needs":{"room":N,"x":8},"users":{}}`, "N", number))
	}
	for _, number := range none {
		r := at(number)
		f := r.Facts(message(t, "x", `{}`), "")
		if r.Level("@a:home") != 0 || r.Level("@c:home") != 0 || len(f.Needs) != 1 {
			t.Errorf("O3: with %s: %d, %d, %v", number, r.Level("@a:home"), r.Level("@c:home"), f.Needs)
		}
		printed(t, r, `{"creator":"","default":0,"id":"!r","joined":0,"leveled":true,"levels":{"@b:home":7},"needs":{"x":8},"users":{}}`)
	}
	// What is no object, though it has items.
	for _, v := range []string{"null", "true", "5", `"x"`, "[]", "[5]", "[5,6]", `[{"@a:home":5}]`, `[["@a:home",5]]`} {
		r := made(t)
		applies(t, r, state(t, powers, "", `{"users":`+v+`,"notifications":`+v+`,"users_default":3}`), true)
		printed(t, r, `{"creator":"","default":3,"id":"!r","joined":0,"leveled":true,"levels":{},"needs":{},"users":{}}`)
	}
}

func TestLevelsKeys(t *testing.T) {
	// Of users those are let by whose keys are no names; of notifications none is.
	r := made(t)
	keys := `{"":1,"@":2,"@a":3,"@A:home":4,"a:home":5,"@a:home:1":6,"!r":7,"é":8,"\u0000":9,"@` + strings.Repeat("x", 59) + `:h":10,"@z:away":11}`
	applies(t, r, state(t, powers, "", `{"users":`+keys+`,"notifications":`+keys+`}`), true)
	want := value(t, keys).Print()
	printed(t, r, `{"creator":"","default":0,"id":"!r","joined":0,"leveled":true,"levels":{"@z:away":11},"needs":`+want+`,"users":{}}`)
	if f := r.Facts(message(t, "x", `{}`), ""); len(f.Needs) != 11 || f.Needs[""] != 1 || f.Needs["\x00"] != 9 {
		t.Errorf("O5: needs %v", f.Needs)
	}
	// Sixty-four of each.
	var users, needs []string
	for n := range 64 {
		users = append(users, fmt.Sprintf(`"@%d:h":%d`, n, n))
		needs = append(needs, fmt.Sprintf(`"%d":%d`, n, -n))
	}
	r = made(t)
	applies(t, r, state(t, powers, "", `{"users":{`+strings.Join(users, ",")+`},"notifications":{`+strings.Join(needs, ",")+`}}`), true)
	f := r.Facts(message(t, "x", `{}`), "")
	for n := range 64 {
		if got := r.Level(fmt.Sprintf("@%d:h", n)); got != n {
			t.Errorf("O4: the level of %d is %d", n, got)
		}
		if got, ok := f.Needs[fmt.Sprint(n)]; !ok || got != -n {
			t.Errorf("O5: the need %d is %d", n, got)
		}
	}
	if len(f.Needs) != 64 {
		t.Errorf("O5: %d needs, want 64", len(f.Needs))
	}
	loaded(t, saved(r))
}

func TestOtherEvents(t *testing.T) {
	content := `{"membership":"join","displayname":"D","users":{"@a:home":5},"users_default":5,"notifications":{"x":1}}`
	r := made(t)
	for _, kind := range []string{"m.room.message", redaction, "m.reaction", "m.room.name", "x", "é", " ", "\\u0000", strings.Repeat("t", 60)} {
		applies(t, r, message(t, kind, content), false)
		for _, key := range []string{"", "@a:home", "x", strings.Repeat("k", 60)} {
			applies(t, r, state(t, kind, key, content), false)
		}
	}
	if all(r) != all(made(t)) {
		t.Errorf("O3: other events have changed the room: %s", all(r))
	}
}
