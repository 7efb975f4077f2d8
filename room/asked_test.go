package room

import (
	"fmt"
	"slices"
	"strings"
	"sync"
	"testing"
	"time"

	"tocsin/api"
	"tocsin/cond"
	"tocsin/jsonval"
	"tocsin/wire"
)

// noUsers are texts that are no names of users.
func noUsers() []string {
	return []string{"", "@", "a", "@a", "@a:", "@A:home", "a:home", "!r", "$1", "room", "default", "\x00", "\xff", "@a:home ", strings.Repeat("@", 1000)}
}

func TestJoined(t *testing.T) {
	r := made(t)
	if got := r.Joined(); len(got) != 0 {
		t.Errorf("O4: in a new room %q have joined", got)
	}
	names := []string{"@b:home", "@a:home", "@a:away", "@ab:home", "@a.b:home", "@a-:home", "@a/:home", "@a0:home", "@a_:home", "@a=:home", "@0:z", "@z:0", "@z:", "@a:home.home", "@a:home-"}
	names = slices.DeleteFunc(names, func(name string) bool { return !IsUser(name) })
	for i, name := range names {
		r.Apply(state(t, member, name, `{"membership":"join"}`))
		want := slices.Sorted(slices.Values(names[:i+1]))
		if got := r.Joined(); !slices.Equal(got, want) {
			t.Errorf("O4: %q, want %q", got, want)
		}
	}
	// Those who are known and no members are not told.
	for i, name := range names {
		r.Apply(state(t, member, name, `{"membership":"`+[]string{"leave", "invite", "ban", "?"}[i%4]+`"}`))
		want := slices.Sorted(slices.Values(names[i+1:]))
		if got := r.Joined(); !slices.Equal(got, want) {
			t.Errorf("O4: %q, want %q", got, want)
		}
		if r.Is(name) {
			t.Errorf("O4: %s is still a member", name)
		}
	}
}

func TestIs(t *testing.T) {
	r := made(t)
	for i, how := range []string{"leave", "join", "invite", "ban", "knock"} {
		r.Apply(state(t, member, nth(i), `{"membership":"`+how+`","displayname":"D"}`))
		if r.Is(nth(i)) != (how == "join") {
			t.Errorf("O4: with %s a member: %v", how, r.Is(nth(i)))
		}
	}
	// The creator, and who has levels, are no members by that.
	r.Apply(state(t, create, "", `{}`))
	r.Apply(state(t, powers, "", `{"users":{"@b:home":50}}`))
	for _, name := range append(noUsers(), "@a:home", "@b:home", nth(9), "@u01:hom", "@u01:homes", "@U01:home") {
		if r.Is(name) {
			t.Errorf("O4: %q is a member", name)
		}
	}
}

func TestLevel(t *testing.T) {
	r := made(t)
	level := func(name string, want int) {
		t.Helper()
		if got := r.Level(name); got != want {
			t.Errorf("O4: Level(%q): %d, want %d", name, got, want)
		}
		if got := r.Facts(&Event{Sender: name}, "@b:home").Level; got != want {
			t.Errorf("O5: the level of the sender %q is %d, want %d", name, got, want)
		}
	}
	strangers := append(noUsers(), "@b:home", "@c:away", "@aa:home", "@a:hom")
	// Ahead of a creator, with one, and with levels.
	for _, name := range append(strangers, "@a:home") {
		level(name, 0)
	}
	r.Apply(state(t, member, "@b:home", `{"membership":"join"}`))
	r.Apply(state(t, create, "", `{}`))
	level("@a:home", 100)
	for _, name := range strangers {
		level(name, 0)
	}
	r.Apply(state(t, powers, "", `{"users":{"@b:home":-7,"@c:away":0},"users_default":33}`))
	level("@b:home", -7)
	level("@c:away", 0)
	level("@a:home", 33) // the creator is as all others
	for _, name := range strangers {
		if name != "@b:home" && name != "@c:away" {
			level(name, 33)
		}
	}
	r.Apply(state(t, powers, "", `{}`))
	for _, name := range append(strangers, "@a:home") {
		level(name, 0)
	}
	r.Apply(state(t, powers, "", `{"users":{"@a:home":1},"users_default":-1000}`))
	level("@a:home", 1)
	for _, name := range strangers {
		level(name, -1000)
	}
}

func TestFacts(t *testing.T) {
	r := made(t)
	e := message(t, "m.room.message", `{"body":"hello"}`)
	foreign := read(t, `{"event_id":"$7","room_id":"!other","sender":"@c:away","type":"x","content":{"n":1}}`)
	facts := func(e *Event, user string, joined int, display string, level int, needs string) {
		t.Helper()
		f := r.Facts(e, user)
		if f.Event != e.Body || f.Joined != joined || f.Display != display || f.Level != level || strings.TrimPrefix(fmt.Sprint(f.Needs), "map") != needs {
			t.Errorf("O5: Facts(%s, %q): %+v; want %d, %q, %d, %s", e.ID, user, f, joined, display, level, needs)
		}
	}
	facts(e, "@b:home", 0, "", 0, "[]")
	r.Apply(state(t, member, "@b:home", `{"membership":"join","displayname":"Bea"}`))
	r.Apply(state(t, member, "@a:home", `{"membership":"join"}`))
	r.Apply(state(t, member, "@c:away", `{"membership":"invite","displayname":"C"}`))
	facts(e, "@b:home", 2, "Bea", 0, "[]")
	facts(e, "@a:home", 2, "", 0, "[]")
	facts(e, "@c:away", 2, "", 0, "[]")
	r.Apply(state(t, create, "", `{}`))
	facts(e, "@b:home", 2, "Bea", 100, "[]")
	facts(foreign, "@b:home", 2, "Bea", 0, "[]") // the sender's level, not the user's
	facts(foreign, "@a:home", 2, "", 0, "[]")
	r.Apply(state(t, powers, "", `{"users":{"@a:home":60,"@b:home":70},"users_default":5,"notifications":{"room":20,"x":-3}}`))
	facts(e, "@b:home", 2, "Bea", 60, "[room:20 x:-3]")
	facts(foreign, "@b:home", 2, "Bea", 5, "[room:20 x:-3]")
	for _, user := range append(noUsers(), "@d:home", "Bea") {
		facts(e, user, 2, "", 60, "[room:20 x:-3]")
	}
	// The conditions can be asked for them.
	for text, want := range map[string]bool{
		`{"kind":"room_member_count","is":"2"}`: true, `{"kind":"room_member_count","is":"3"}`: false, `{"kind":"sender_notification_permission","key":"room"}`: true, `{"kind":"event_match","key":"content.body","pattern":"hello"}`: true, `{"kind":"contains_display_name"}`: false,
	} {
		c, errno := cond.Parse(value(t, text))
		if errno != api.OK || c.Holds(r.Facts(e, "@b:home")) != want {
			t.Errorf("O5: %s holds: %v, want %v", text, !want, want)
		}
	}
	r.Apply(state(t, powers, "", `{"notifications":{"y":1}}`))
	facts(e, "", 2, "", 0, "[y:1]")
	r.Apply(state(t, powers, "", `{}`))
	facts(e, "", 2, "", 0, "[]")
	r.Apply(state(t, member, "@b:home", `{"membership":"ban","displayname":"Bea"}`))
	facts(e, "@b:home", 1, "", 0, "[]")
}

func TestAnswersAreTheCallers(t *testing.T) {
	r := filled(t)
	old := all(r)
	e := message(t, "x", `{}`)
	f, g := r.Facts(e, "@b:home"), r.Facts(e, "@b:home")
	f.Needs["room"], f.Needs["new"] = 999, 1
	delete(f.Needs, "x")
	if g.Needs["room"] != 20 || g.Needs["x"] != -3 || len(g.Needs) != 2 {
		t.Error("P3: two needs share memory")
	}
	l, m := r.Joined(), r.Joined()
	whole := m[:cap(m)]
	for i := range whole {
		whole[i] = "?"
	}
	_ = append(m, "?")
	if !slices.Equal(l, []string{"@a:home", "@b:home"}) {
		t.Errorf("P3: two lists of members share memory: %q", l)
	}
	slices.Reverse(l)
	if all(r) != old {
		t.Errorf("O5, P3: who writes into an answer changes the room:\n%s, was\n%s", all(r), old)
	}
}

func TestArgumentsStay(t *testing.T) {
	r := made(t)
	for _, e := range []*Event{
		state(t, member, "@b:home", `{"membership":"join","displayname":"Bea"}`), state(t, create, "", `{}`),
		state(t, powers, "", `{"users":{"@a:home":60,"b":1},"users_default":5,"notifications":{"room":20}}`), message(t, redaction, `{}`),
	} {
		was, body := *e, e.Body.Print()
		r.May(e)
		r.Apply(e)
		r.Facts(e, "@b:home").Needs["x"]++
		if *e != was || e.Body.Print() != body {
			t.Errorf("P3: an event is changed: %+v, was %+v", *e, was)
		}
	}
}

// filled is a room with something of all that may be known.
func filled(t testing.TB) *Room {
	t.Helper()
	return made(t,
		state(t, member, "@b:home", `{"membership":"join","displayname":"Béa"}`), state(t, member, "@a:home", `{"membership":"join"}`), state(t, member, "@d:home", `{"membership":"leave"}`),
		state(t, member, "@c:away", `{"membership":"invite"}`), state(t, member, "@e:home", `{"membership":"ban"}`), state(t, create, "", `{}`),
		state(t, powers, "", `{"users":{"@b:home":70,"@a:home":-1000},"users_default":5,"notifications":{"room":20,"x":-3}}`))
}

func TestPrint(t *testing.T) {
	printed(t, filled(t), `{"creator":"@a:home","default":5,"id":"!r","joined":2,"leveled":true,"levels":{"@a:home":-1000,"@b:home":70},"needs":{"room":20,"x":-3},"users":{"@a:home":{"display":"","membership":"join"},"@b:home":{"display":"Béa","membership":"join"},"@c:away":{"display":"","membership":"invite"},"@d:home":{"display":"","membership":"leave"},"@e:home":{"display":"","membership":"ban"}}}`)
	// An answer stays as it is, whatever comes.
	r := filled(t)
	v := r.Print()
	was := v.Print()
	r.Apply(state(t, member, "@b:home", `{}`))
	r.Apply(state(t, powers, "", `{}`))
	if v.Print() != was {
		t.Error("P3: what was printed changes with the room")
	}
	if v.Kind() != jsonval.Object || v.Len() != 8 {
		t.Errorf("O6: %d members, want 8", v.Len())
	}
}

func TestRoomsAreApart(t *testing.T) {
	// The same events in two rooms, and others in a third.
	one, two, three := filled(t), filled(t), filled(t)
	three.Apply(state(t, member, "@b:home", `{}`))
	three.Apply(state(t, powers, "", `{}`))
	if all(one) != all(two) {
		t.Errorf("P4: two rooms with the same events are\n%s and\n%s", all(one), all(two))
	}
	if all(one) == all(three) {
		t.Error("P4: rooms with other events are alike")
	}
	for range 50 {
		if all(filled(t)) != all(one) {
			t.Fatal("P4: the same events make another room")
		}
	}
}

func TestOrderOfUsers(t *testing.T) {
	// However users came, what is told is the same.
	var up, down []*Event
	for n := range 60 {
		up = append(up, state(t, member, nth(n), `{"membership":"join","displayname":"`+nth(n)+`"}`))
	}
	down = slices.Clone(up)
	slices.Reverse(down)
	if all(made(t, up...)) != all(made(t, down...)) {
		t.Error("P4: what is told hangs on the order in which users came")
	}
}

func TestManyAsk(t *testing.T) {
	r := filled(t)
	want := all(r)
	e := state(t, member, "@x:home", `{}`)
	var group sync.WaitGroup
	for range 8 {
		group.Go(func() {
			for range 50 {
				r.Facts(e, "@b:home").Needs["x"]++
				if r.May(e) != api.OK || all(r) != want {
					t.Error("P4: a room answers otherwise when many ask")
					return
				}
			}
		})
	}
	group.Wait()
}

func TestWrongArguments(t *testing.T) {
	r := filled(t)
	old := all(r)
	// No event, or one that ReadEvent never gives: nothing panics.
	refuses(t, r, nil, api.ErrForeign)
	refuses(t, r, &Event{}, api.ErrForeign)
	r.Facts(nil, "@b:home")
	r.Save(nil)
	if room, errno := Load(nil); room != nil || errno != api.ErrWire {
		t.Errorf("O7, P2: Load(nil): %v, %d", room != nil, errno)
	}
	if all(r) != old {
		t.Error("P2: what is refused changes something")
	}
	for _, e := range []*Event{
		{Room: "!r"}, {Room: "!r", State: true, Type: member, Key: "@x:home"}, {Room: "!r", State: true, Type: create}, {Room: "!r", State: true, Type: powers},
		{Room: "!r", State: true, Type: powers, Body: value(t, `[1]`)}, {Room: "!r", State: true, Type: member, Key: "@x:home", Body: value(t, `5`)}, {Room: "!r", State: true, Type: powers, Body: &jsonval.Value{}}, {Room: "!r", State: true, Type: member, Key: "\xff"},
	} {
		r.May(e)
		r.Apply(e)
		all(r)
		r.Facts(e, "\xff")
	}
}

func TestUnsoundValues(t *testing.T) {
	// Of values that jsonval.Parse would not take nothing is promised but that all calls end.
	many := map[string]*jsonval.Value{}
	for n := range 1000 {
		many[nth(n)] = jsonval.OfInt(int64(n))
	}
	deep := jsonval.OfInt(1)
	for range 1000 {
		deep = jsonval.OfList(deep)
	}
	r := made(t)
	for _, content := range []*jsonval.Value{
		jsonval.OfMap(map[string]*jsonval.Value{"users": jsonval.OfMap(many), "notifications": jsonval.OfMap(many)}),
		jsonval.OfMap(map[string]*jsonval.Value{"membership": jsonval.OfText("join"), "displayname": jsonval.OfText(strings.Repeat("\xff", 1<<20))}),
		jsonval.OfMap(map[string]*jsonval.Value{"users": deep, "users_default": deep, "notifications": deep, "membership": deep}),
	} {
		for _, kind := range []string{member, create, powers} {
			for _, key := range []string{"", "@a:home"} {
				e, errno := ReadEvent(jsonval.OfMap(map[string]*jsonval.Value{"event_id": jsonval.OfText("$1"), "room_id": jsonval.OfText("!r"), "sender": jsonval.OfText("@a:home"), "type": jsonval.OfText(kind), "state_key": jsonval.OfText(key), "content": content}))
				if e == nil || errno != api.OK {
					continue
				}
				r.May(e)
				r.Apply(e)
				r.Facts(e, "@a:home")
				r.Print()
				Load(wire.NewReader([]byte(saved(r))))
			}
		}
	}
}

func TestTime(t *testing.T) {
	// A thousand times all that bulk asks of a full room.
	r := made(t)
	for n := range 60 {
		r.Apply(state(t, member, nth(n), `{"membership":"join","displayname":"D"}`))
	}
	var needs []string
	for n := range 64 {
		needs = append(needs, fmt.Sprintf(`"%d":%d`, n, n))
	}
	r.Apply(state(t, powers, "", `{"notifications":{`+strings.Join(needs, ",")+`}}`))
	e := message(t, "x", `{}`)
	begin := time.Now()
	for range 1000 {
		for n := range 60 {
			r.Facts(e, nth(n))
		}
	}
	if took := time.Since(begin); took > 20*time.Second {
		t.Errorf("P1: it took %v", took)
	}
	begin = time.Now()
	long := strings.Repeat("a", 1<<24)
	for _, name := range []string{long, "@" + long, "!" + long, "$" + long, "@a:" + long, "@" + long + ":home"} {
		if IsUser(name) || IsRoom(name) || IsEvent(name) || Local(name) || r.Is(name) || r.Level(name) != 0 {
			t.Error("O1: a long text is a name")
		}
	}
	if took := time.Since(begin); took > 10*time.Second {
		t.Errorf("P1: it took %v", took)
	}
}
