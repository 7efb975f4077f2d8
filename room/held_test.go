package room

import (
	"fmt"
	"maps"
	"math/rand"
	"reflect"
	"slices"
	"strings"
	"testing"

	"tocsin/api"
	"tocsin/wire"
)

// heldNames holds the four calls of names against the model.
func heldNames(t *testing.T, s string) {
	t.Helper()
	got := [4]bool{IsUser(s), IsRoom(s), IsEvent(s), Local(s)}
	if want := [4]bool{modelIsUser(s), modelIsRoom(s), modelIsEvent(s), modelLocal(s)}; got != want {
		t.Errorf("O1: of %q a user's, room's, event's, local name: %v, want %v", s, got, want)
	}
}

func TestNamesHeld(t *testing.T) {
	t.Parallel()
	signs := []string{"@", "!", "$", ":", "a", "Z", "_", ".", "é", "home"}
	texts := []string{""}
	for range 5 {
		var longer []string
		for _, s := range texts {
			heldNames(t, s)
			for _, sign := range signs {
				longer = append(longer, s+sign)
			}
		}
		texts = longer
	}
	rnd := rand.New(rand.NewSource(1))
	all := []byte("az09._-=/:AZ")
	for range 20000 {
		s := []byte(signs[rnd.Intn(3)])
		for range 1 + rnd.Intn(64) {
			s = append(s, all[rnd.Intn(len(all)-2)])
		}
		for range rnd.Intn(2) {
			s[rnd.Intn(len(s))] = byte(rnd.Intn(256))
		}
		if rnd.Intn(2) == 0 {
			s = append(s, ":home"...)
		}
		heldNames(t, string(s))
	}
}

// heldEvent reads an event by both, and gives both.
func heldEvent(t testing.TB, text string) (*Event, *modelEvent) {
	t.Helper()
	v := value(t, text)
	e, errno := ReadEvent(v)
	m, want := modelRead(text)
	if errno != want || (e != nil) != (m != nil) {
		t.Errorf("O1: ReadEvent(%s): %v, %d; want %v, %d", text, e != nil, errno, m != nil, want)
		return nil, nil
	}
	if e != nil && *e != (Event{m.id, m.room, m.sender, m.kind, m.state, m.key, m.redacts, v}) {
		t.Errorf("O1: ReadEvent(%s): %+v", text, *e)
		return nil, nil
	}
	return e, m
}

func TestReadEventHeld(t *testing.T) {
	t.Parallel()
	long := strings.Repeat("x", 60)
	choices := []struct {
		key    string
		values []string
	}{
		{"event_id", []string{"", "null", "1", `"$1"`, `"1"`}},
		{"room_id", []string{"", "[]", `"!r"`, `"r"`}},
		{"sender", []string{"", "{}", `"@a:x"`, `"@a"`}},
		{"type", []string{"", "true", `"t"`, `"m.room.redaction"`, `""`, `"x` + long + `"`}},
		{"content", []string{"", "null", `"{}"`, `{}`, `[]`}},
		{"state_key", []string{"", "null", `""`, `"k"`, `"x` + long + `"`}},
		{"redacts", []string{"", "null", `"$0"`, `"0"`, `""`}},
	}
	var walk func(i int, p []string)
	walk = func(i int, p []string) {
		if i == len(choices) {
			heldEvent(t, "{"+strings.Join(p, ",")+"}")
			return
		}
		for _, v := range choices[i].values {
			if v == "" {
				walk(i+1, p)
			} else {
				walk(i+1, append(slices.Clip(p), `"`+choices[i].key+`":`+v))
			}
		}
	}
	walk(0, nil)
}

// A pair is a room, and the model of it: the same events come to both.
type pair struct {
	t testing.TB
	r *Room
	m *model
}

func (p *pair) apply(text string) bool {
	p.t.Helper()
	e, m := heldEvent(p.t, text)
	if e == nil {
		return false
	}
	may, want := p.r.May(e), p.m.may(m)
	changed, errno := p.r.Apply(e)
	wantChanged, wantErrno := p.m.apply(m)
	if may != want || errno != wantErrno || changed != wantChanged {
		p.t.Errorf("O3: %s: May %d, Apply %v, %d; want %d, %v, %d", text, may, changed, errno, want, wantChanged, wantErrno)
		return false
	}
	return p.alike() && p.facts(e, m)
}

func (p *pair) alike() bool {
	p.t.Helper()
	if got := saved(p.r); got != string(p.m.save()) {
		p.t.Errorf("O7: saved as\n%q, want\n%q", got, p.m.save())
		return false
	}
	if got := p.r.Joined(); !slices.Equal(got, p.m.joined()) {
		p.t.Errorf("O4: joined %q, want %q", got, p.m.joined())
		return false
	}
	if got := decoded(p.r.Print().Print()); !reflect.DeepEqual(got, p.m.print()) {
		p.t.Errorf("O6: printed as\n%v, want\n%v", got, p.m.print())
		return false
	}
	return true
}

func (p *pair) facts(e *Event, m *modelEvent) bool {
	p.t.Helper()
	_, _, needs, _ := p.m.levels()
	for _, user := range append(someUsers(), "", "@", "room", "@A:home") {
		if is, level := slices.Contains(p.m.joined(), user), p.m.level(user); p.r.Is(user) != is || p.r.Level(user) != level {
			p.t.Errorf("O4: %q: a member %v, the level %d; want %v, %d", user, p.r.Is(user), p.r.Level(user), is, level)
			return false
		}
		f := p.r.Facts(e, user)
		if f.Event != e.Body || f.Joined != len(p.m.joined()) || f.Display != p.m.display(user) || f.Level != p.m.level(m.sender) || !maps.Equal(f.Needs, needs) {
			p.t.Errorf("O5: the facts of %q: %+v; want %d, %q, %d, %v", user, f, len(p.m.joined()), p.m.display(user), p.m.level(m.sender), needs)
			return false
		}
	}
	return true
}

func someUsers() []string { return []string{"@a:home", "@b:home", "@c:away", "@0.=/_-:x-y"} }

// someEvent makes one up: most of them say something, some are of another room, and some are none.
func someEvent(rnd *rand.Rand, user func() string) string {
	one := func(l ...string) string { return l[rnd.Intn(len(l))] }
	number := func() string {
		return one("0", "1", "5", "5", "50", "-1000", "1000", "-1001", "1001", "null", `"5"`, "[]", "9007199254740991")
	}
	levels := func(key func() string) string {
		m := map[string]string{}
		for range rnd.Intn(4) {
			m[key()] = number()
		}
		return parts(m).text()
	}
	room := one("!r", "!r", "!r", "!r", "!r", "!r", "!r", "!s", "r")
	kind, key := one("m.room.message", "x", "m.room.redaction"), one("", "k", user())
	switch rnd.Intn(8) {
	case 0, 1, 2:
		kind, key = member, one(user(), user(), user(), user(), "", "@", "k")
	case 3, 4:
		kind, key = powers, one("", "", "", "", "k")
	case 5:
		kind, key = create, one("", "", "k")
	}
	p := parts{}
	if kind != powers || rnd.Intn(10) == 0 {
		p["membership"] = one(`"join"`, `"join"`, `"join"`, `"leave"`, `"invite"`, `"ban"`, `"knock"`, "1", "null")
		p["displayname"] = one(`"A"`, `"B"`, `""`, "null", "5", `"é"`)
	}
	if kind == powers || rnd.Intn(10) == 0 {
		p["users"] = one(levels(user), levels(user), levels(user), levels(func() string { return one("@", "", "a") }), "null", "[5]", "5")
		p["users_default"] = number()
		p["notifications"] = one(levels(func() string { return one("room", "", "é", "x") }), "null", "[5]", `"x"`)
	}
	for key := range p {
		if rnd.Intn(4) == 0 {
			delete(p, key)
		}
	}
	all := parts{"event_id": `"$1"`, "room_id": `"` + room + `"`, "sender": `"` + user() + `"`, "type": `"` + kind + `"`, "state_key": `"` + key + `"`, "content": p.text()}
	if rnd.Intn(10) == 0 {
		delete(all, one("state_key", "state_key", "state_key", "content", "type"))
	}
	return all.text()
}

func TestRoomHeld(t *testing.T) {
	t.Parallel()
	for seed := range 150 {
		rnd := rand.New(rand.NewSource(int64(seed)))
		p := &pair{t, made(t), &model{id: "!r"}}
		user := func() string { return someUsers()[rnd.Intn(4)] }
		for range 40 {
			p.apply(someEvent(rnd, user))
			if rnd.Intn(10) == 0 {
				p.r = loaded(t, saved(p.r))
				p.alike()
			}
			if t.Failed() {
				t.Fatalf("at the seed %d", seed)
			}
		}
	}
}

func TestFullRoomHeld(t *testing.T) {
	t.Parallel()
	for seed := range 4 {
		rnd := rand.New(rand.NewSource(int64(seed)))
		p := &pair{t, made(t), &model{id: "!r"}}
		for n := range 58 {
			p.apply(plain().with("type", `"m.room.member"`).with("state_key", `"`+nth(n)+`"`).text())
		}
		refused := 0
		for range 120 {
			p.apply(someEvent(rnd, func() string { return nth(rnd.Intn(80)) }))
			if p.m.may(&modelEvent{room: "!r", state: true, kind: member, key: "@new:home"}) == api.ErrUsers {
				refused++
			}
			if t.Failed() {
				t.Fatalf("at the seed %d", seed)
			}
		}
		if refused == 0 {
			t.Errorf("at the seed %d the room was never full", seed)
		}
	}
}

func TestLoadHeld(t *testing.T) {
	t.Parallel()
	rnd := rand.New(rand.NewSource(7))
	taken, refused := 0, 0
	for range 60000 {
		b := someBytes(t, rnd)
		want, ok := modelLoads(b)
		r, errno := Load(wire.NewReader(b))
		if ok != (errno == api.OK) || ok != (r != nil) || !ok && errno != api.ErrWire {
			t.Fatalf("O7: Load(%q): %v, %d; want %v", b, r != nil, errno, ok)
		}
		if !ok {
			refused++
			continue
		}
		taken++
		if u := loaded(t, string(b[:len(b)-len(want)])); all(u) != all(r) {
			t.Fatalf("O7: Load(%q) hangs on what stands behind", b)
		}
	}
	if taken < 1000 || refused < 1000 {
		t.Errorf("%d taken, %d refused: too few", taken, refused)
	}
}

// someBytes are a room as it is saved, some of them hurt.
func someBytes(t testing.TB, rnd *rand.Rand) []byte {
	one := func(l ...string) string { return l[rnd.Intn(len(l))] }
	list := func(keys []string, tail func() string) string {
		var items []string
		for _, key := range keys {
			if rnd.Intn(3) == 0 {
				items = append(items, text(key)+tail())
			}
		}
		return counted(items...)
	}
	level := func() string { return number([]int64{0, 1, -1000, 1000, 7, 7, 7, 7, 7, 1001}[rnd.Intn(10)]) }
	names := slices.Sorted(slices.Values(someUsers()))
	s := sheet{id: text("!r"), creator: text(one("", "", "@a:home", "@a")), come: one("\x01", "\x01", "\x01", "\x00"), others: "\x00", levels: "\x00", needs: "\x00"}
	s.users = list(names, func() string {
		return one("\x00\x00", "\x02\x00", "\x02\x01A", "\x02\x02é", "\x04\x00", "\x06\x00", "\x06\x00", "\x02\x03abc", "\x02\x00", "\x04\x01A")
	})
	if s.come == "\x01" || rnd.Intn(20) == 0 {
		s.others, s.levels, s.needs = level(), list(names, level), list([]string{"", "a", "room", "é"}, level)
	}
	b := []byte(s.text())
	for range rnd.Intn(2) {
		switch at := rnd.Intn(len(b)); rnd.Intn(4) {
		case 0:
			b[at] = byte(rnd.Intn(256))
		case 1:
			b[at] ^= 1 << rnd.Intn(8)
		case 2:
			b = slices.Delete(b, at, at+1)
		case 3:
			b = slices.Insert(b, at, byte(rnd.Intn(4)))
		}
	}
	for range rnd.Intn(3) {
		b = append(b, byte(rnd.Intn(256)))
	}
	return b
}

func TestHistoryAlone(t *testing.T) {
	t.Parallel()
	// A room's members are those whose last event of membership says join: whatever else came between.
	for seed := range 50 {
		rnd := rand.New(rand.NewSource(int64(seed)))
		r := made(t)
		last := map[string]string{}
		for range 60 {
			name, how := nth(rnd.Intn(8)), []string{"join", "leave", "invite", "ban", "knock"}[rnd.Intn(5)]
			r.Apply(state(t, member, name, `{"membership":"`+how+`"}`))
			r.Apply(message(t, fmt.Sprintf("t%d", rnd.Intn(9)), `{}`))
			last[name] = how
		}
		maps.DeleteFunc(last, func(_ string, how string) bool { return how != "join" })
		if got, want := r.Joined(), slices.Sorted(maps.Keys(last)); !slices.Equal(got, want) {
			t.Errorf("O3, O4: the members are %q, want %q", got, want)
		}
	}
}
