package engine

import (
	"fmt"
	"math/rand"
	"strings"
	"testing"

	"tocsin/api"
	"tocsin/room"
	"tocsin/rules"
)

// loaded reads bytes that are an engine.
func loaded(t testing.TB, bytes string) *Engine {
	t.Helper()
	e, errno := Load([]byte(bytes))
	if e == nil || errno != api.OK {
		t.Fatalf("E11: Load(%.200q): %v, %d", bytes, e != nil, errno)
	}
	if got := string(e.Save()); got != bytes {
		t.Fatalf("E11: %.200q is saved as %.200q", bytes, got)
	}
	return e
}

// hurt wants that bytes are refused.
func hurt(t testing.TB, what, bytes string) {
	t.Helper()
	if e, errno := Load([]byte(bytes)); e != nil || errno != api.ErrWire {
		t.Errorf("E11, P2: %s: Load(%.200q): %v, %d; want nil, ErrWire", what, bytes, e != nil, errno)
	}
}

// A saved engine, in its parts.
type saved struct {
	time                         int
	rooms, people                []string
	stream, marks, notes, pushed []string
	next                         int
}

func (s saved) bytes() string {
	return saidNumber(s.time) + counted(s.rooms...) + counted(s.people...) + counted(s.stream...) + counted(s.marks...) + counted(s.notes...) + saidNumber(s.next) + counted(s.pushed...)
}

func saidRoom(name string, commands ...string) string {
	r, _ := room.New(name)
	for _, s := range commands {
		r.Apply(eventOf(s))
	}
	return saidBy(r.Save)
}

func saidPerson(name string) string {
	s, errno := rules.New(name)
	if errno != api.OK {
		s, _ = rules.New("@x:home")
	}
	return saidText(name) + saidBy(s.Save)
}

func saidEntry(room, id string, takenBack bool) string {
	return saidText(room) + saidText(id) + saidTruth(takenBack)
}

func TestSaveIsWhatTheChapterSays(t *testing.T) { // E11
	a := newAsker(t)
	a.does(joins("$1", "!s", "@a:home"), joins("$2", "!r", "@b:home"), joins("$3", "!r", "@a:home"), message("$4", "!r", "@c:away", "hello a"), message("$5", "!r", "@c:away", "bye"),
		redaction("$6", "!r", "@c:away", "$5"), receipt("@b:home", "!r", "$4"), setPusher("@a:home", "k"), always("@b:home", `[]`), tick(9))
	b, _ := rules.New("@b:home")
	b.Put("override", "always", value(`{"actions":[]}`), "", "")
	want := saved{
		time:   9,
		rooms:  []string{saidRoom("!r", joins("$2", "!r", "@b:home"), joins("$3", "!r", "@a:home")), saidRoom("!s", joins("$1", "!s", "@a:home"))},
		people: []string{saidPerson("@a:home"), saidText("@b:home") + saidBy(b.Save)},
		stream: []string{saidEntry("!s", "$1", false), saidEntry("!r", "$2", false), saidEntry("!r", "$3", false), saidEntry("!r", "$4", false), saidEntry("!r", "$5", true), saidEntry("!r", "$6", false)},
		marks:  []string{saidText("@b:home") + saidText("!r") + saidNumber(4)},
		notes:  []string{saidText("@a:home") + saidNumber(4) + saidTruth(true)},
		next:   1,
		pushed: []string{saidPusher(modelPusher{user: "@a:home", key: "k", format: "event_id_only"})},
	}
	if got := string(a.engine.Save()); got != want.bytes() {
		t.Errorf("E11: saved as %q, want %q", got, want.bytes())
	}
	loaded(t, want.bytes())
}

func TestLoadGoesOnAlike(t *testing.T) { // E11
	for seed := range int64(6) {
		p := newPair(t)
		w := worldOf(p, seed)
		for range 120 {
			p.do(w.command())
		}
		whole := p.engine
		p.reload()
		for range 60 {
			s := w.command()
			p.do(s)
			whole.Do(value(s))
			if string(whole.Save()) != string(p.engine.Save()) {
				t.Fatalf("E11: behind %s the one that was loaded is another one", s)
			}
		}
	}
}

func TestBytesCutOffAndLeftOver(t *testing.T) { // E11
	a := newAsker(t)
	a.does(goodCommands()...)
	a.does(setPusher("@b:home", "l"), message("$9", "!r", "@b:away", "hello"))
	whole := string(a.engine.Save())
	for n := range whole {
		hurt(t, "cut off", whole[:n])
	}
	for _, more := range []string{"\x00", "\x01", "\xff", whole} {
		hurt(t, "left over", whole+more)
	}
	loaded(t, whole)
}

func TestLoadOfTimes(t *testing.T) { // E11
	for _, time := range []int{0, 1, 999999999, 1000000000} {
		a := asker{t, loaded(t, saved{time: time, next: 1}.bytes())}
		if time > 0 {
			a.refuses("E11, E5", tick(time-1), api.ErrTime)
		}
		a.wants("E11, E5", tick(time), `{"attempts":[],"ok":true}`)
	}
	for _, time := range []int{-1, 1000000001, -1 << 63, 1<<63 - 1, -1000000000} {
		hurt(t, "time", saved{time: time, next: 1}.bytes())
	}
}

func TestLoadOfRooms(t *testing.T) { // E11
	var many []string
	for n := range 21 {
		many = append(many, saidRoom(fmt.Sprintf("!r%02d", n)))
	}
	a := asker{t, loaded(t, saved{rooms: many[:20], next: 1}.bytes())}
	a.refuses("E3, E11", message("$1", "!x", "@b:away", "hello"), api.ErrRooms)
	a.wants("E3, E11", message("$1", "!r07", "@b:away", "hello"), placed(1))
	a = asker{t, loaded(t, saved{rooms: many[1:20], next: 1}.bytes())}
	a.wants("E3, E11", message("$1", "!x", "@b:away", "hello"), placed(1))
	a.refuses("E3, E11", message("$2", "!y", "@b:away", "hello"), api.ErrRooms)
	hurt(t, "21 rooms", saved{rooms: many, next: 1}.bytes())
	loaded(t, saved{rooms: []string{saidRoom("!R"), saidRoom("!r"), saidRoom("!r0"), saidRoom("!ra"), saidRoom("!s")}, next: 1}.bytes())
	for what, names := range map[string][]string{"not rising": {"!s", "!r"}, "alike": {"!r", "!r"}, "a beginning behind": {"!ra", "!r"}, "the last not rising": {"!r", "!s", "!q"}, "the last alike": {"!q", "!r", "!s", "!s"}, "alike, apart": {"!r", "!s", "!r"}} {
		var rooms []string
		for _, name := range names {
			rooms = append(rooms, saidRoom(name))
		}
		hurt(t, what, saved{rooms: rooms, next: 1}.bytes())
	}
	bad := saidText("r") + counted() + saidText("") + saidTruth(false) + saidNumber(0) + counted() + counted()
	for _, rooms := range [][]string{{bad}, {saidRoom("!r"), bad}, {bad, saidRoom("!r")}} {
		hurt(t, "a room that is none", saved{rooms: rooms, next: 1}.bytes())
	}
}

func TestLoadOfPeople(t *testing.T) { // E11
	var many []string
	for n := range 201 {
		many = append(many, saidPerson(fmt.Sprintf("@p%03d:home", n)))
	}
	a := asker{t, loaded(t, saved{people: many[:200], next: 1}.bytes())}
	a.refuses("E2, E11", setPusher("@x:home", "k"), api.ErrPeople)
	a.wants("E2, E11", setPusher("@p077:home", "k"), done)
	a = asker{t, loaded(t, saved{people: many[1:200], next: 1}.bytes())}
	a.wants("E2, E11", setPusher("@x:home", "k"), done)
	a.refuses("E2, E11", setPusher("@y:home", "k"), api.ErrPeople)
	hurt(t, "201 people", saved{people: many, next: 1}.bytes())
	for what, names := range map[string][]string{
		"not rising": {"@b:home", "@a:home"}, "alike": {"@a:home", "@a:home"}, "the last not rising": {"@b:home", "@c:home", "@a:home"}, "the last alike": {"@a:home", "@b:home", "@b:home"}, "alike, apart": {"@a:home", "@b:home", "@a:home"},
		"not local": {"@a:away"}, "the last not local": {"@a:home", "@b:away"}, "the first not local": {"@a:away", "@b:home"}, "no name": {"a"}, "an empty name": {""}, "no host": {"@a"}, "too long": {"@" + strings.Repeat("a", 55) + ":home"}, "the last no name": {"@a:home", "a"},
	} {
		var people []string
		for _, name := range names {
			people = append(people, saidPerson(name))
		}
		hurt(t, what, saved{people: people, next: 1}.bytes())
	}
	loaded(t, saved{people: []string{saidPerson("@a.a:home"), saidPerson("@a:home"), saidPerson("@aa:home"), saidPerson("@" + strings.Repeat("b", 54) + ":home")}, next: 1}.bytes())
	good := saidPerson("@a:home")
	hurt(t, "rules that are none", saved{people: []string{saidText("@a:home") + counted(saidText(".x")) + good[len(saidText("@a:home"))+1:]}, next: 1}.bytes())
	twice, _ := rules.New("@a:home")
	twice.Put("room", "!r", value(`{"actions":[]}`), "", "")
	wrong := strings.Replace(saidText("@a:home")+saidBy(twice.Save), "!r", "xr", 1)
	hurt(t, "a rule that may not be", saved{people: []string{wrong}, next: 1}.bytes())
	hurt(t, "a rule that may not be, ahead", saved{people: []string{wrong, saidPerson("@b:home")}, next: 1}.bytes())
}

func TestLoadOfTheBookAndThePost(t *testing.T) { // E11
	stream := []string{saidEntry("!r", "$1", false), saidEntry("!r", "$2", true)}
	pushed := func(attempt int, user string) []string {
		return []string{saidPusher(modelPusher{user: user, key: "k", format: "full", notes: []string{"x\xff"}, attempt: attempt})}
	}
	mark := func(place int) []string { return []string{saidText("@a:home") + saidText("!r") + saidNumber(place)} }
	note := func(place int) []string { return []string{saidText("@a:home") + saidNumber(place) + saidTruth(true)} }
	loaded(t, saved{stream: stream, marks: mark(2), next: 1}.bytes())
	loaded(t, saved{stream: stream, notes: note(1), next: 1}.bytes())
	loaded(t, saved{pushed: pushed(4, "@a:home"), next: 5}.bytes())
	for what, s := range map[string]saved{
		"an event twice":               {stream: append(stream, stream[0]), next: 1},
		"a mark behind the stream":     {stream: stream, marks: mark(3), next: 1},
		"a mark of 0":                  {stream: stream, marks: mark(0), next: 1},
		"a note that is read":          {stream: stream, marks: mark(1), notes: note(1), next: 1},
		"a note that is taken back":    {stream: stream, notes: note(2), next: 1},
		"no next attempt":              {next: 0},
		"an attempt that is not yet":   {pushed: pushed(5, "@a:home"), next: 5},
		"a pusher of a name too long":  {pushed: pushed(0, strings.Repeat("x", 61)), next: 5},
		"two pushers alike":            {pushed: append(pushed(0, "@a:home"), pushed(0, "@a:home")...), next: 5},
		"a next attempt behind MaxInt": {next: api.MaxInt + 2},
	} {
		hurt(t, what, s.bytes())
	}
}

func TestPartsAreNotHeldAgainstEachOther(t *testing.T) { // E11
	s := saved{
		time:   3,
		stream: []string{saidEntry("!gone", "$1", false), saidEntry("", "", false), saidEntry("!r", "x", true)},
		marks:  []string{saidText("@b:home") + saidText("!none") + saidNumber(2)},
		notes:  []string{saidText("") + saidNumber(2) + saidTruth(false), saidText("@a:home") + saidNumber(1) + saidTruth(true)},
		pushed: []string{saidPusher(modelPusher{user: "", key: "k", format: "full", notes: []string{"\xff"}, until: 2000000000}), saidPusher(modelPusher{user: "@z:away", key: "k", format: "full", notes: []string{"a\xff"}})},
		next:   7,
	}
	a := asker{t, loaded(t, s.bytes())}
	a.wants("E11, E4", countsIn("@a:home", "!gone"), counters(1, 1))
	a.wants("E11, E4", countsOf("@a:home"), `{"ok":true,"rooms":[]}`)
	a.refuses("E11, E7", `{"do":"room","room":"!gone"}`, api.ErrState)
	a.wants("E11", receipt("@c:home", "!gone", "$1"), `{"changed":true,"ok":true}`)
	a.wants("E11", `{"do":"rotate"}`, `{"kept":2,"ok":true}`)
	a.refuses("E11, E3", joins("$1", "!gone", "@a:home"), api.ErrKnown)
	a.wants("E11, E3", joins("$2", "!gone", "@a:home"), placed(4))
	a.wants("E11, E4", countsOf("@a:home"), `{"ok":true,"rooms":[{"highlight":1,"room":"!gone","unread":1}]}`)
	a.wants("E11, E5", tick(3), `{"attempts":[{"id":7,"key":"k","payload":"a�","user":"@z:away"}],"ok":true}`)
	a.wants("E11", reply(7, "fail"), done)
	a.wants("E11", receipt("@a:home", "!gone", "$1"), `{"changed":true,"ok":true}`)
	a.wants("E11, E4", countsIn("@a:home", "!gone"), counters(0, 0))
}

func TestMembersOfALoadedRoom(t *testing.T) { // E11, E6
	b, _ := rules.New("@b:home")
	b.Enable("override", ".master", true)
	s := saved{
		rooms:  []string{saidRoom("!r", joins("$1", "!r", "@a:home"), joins("$2", "!r", "@b:home"), joins("$3", "!r", "@c:away"))},
		people: []string{saidText("@b:home") + saidBy(b.Save)},
		next:   1,
	}
	a := asker{t, loaded(t, s.bytes())}
	a.wants("E11", message("$4", "!r", "@c:away", "hello"), placed(1, toldOf("@a:home", "underride/.message", true, false, ""), toldOf("@b:home", "override/.master", false, false, "")))
	a.wants("E11", message("$5", "!r", "@x:away", "hello"), placed(2, toldOf("@a:home", "underride/.message", true, false, ""), toldOf("@b:home", "override/.master", false, false, "")))
	a.does(member("$6", "!r", "@a:home", "leave"))
	a.wants("E11, P7", countsIn("@a:home", "!r"), counters(0, 0))
}

func TestSpoiltBytes(t *testing.T) { // E11, P1
	t.Parallel()
	p := newPair(t)
	w := worldOf(p, 1)
	for range 60 {
		p.do(w.command())
	}
	whole := string(p.engine.Save())
	r := rand.New(rand.NewSource(11))
	taken := 0
	for n := range 12000 {
		b := []byte(whole)
		at := n % len(b)
		switch r.Intn(4) {
		case 0:
			b[at] = byte(r.Intn(256))
		case 1:
			b[at] ^= 1 << r.Intn(8)
		case 2:
			b = append(b[:at], b[at+1:]...)
		default:
			b = append(b[:at], append([]byte{byte(r.Intn(256))}, b[at:]...)...)
		}
		e, errno := Load(b)
		if e == nil {
			if errno != api.ErrWire {
				t.Fatalf("E11, P2: Load(%q): nil, %d", b, errno)
			}
			continue
		}
		taken++
		if errno != api.OK || string(e.Save()) != string(b) {
			t.Fatalf("E11: Load(%q): %d, and it is saved as %q", b, errno, e.Save())
		}
		if taken%10 == 0 {
			for _, s := range goodCommands() {
				e.Do(value(s))
			}
		}
	}
	if taken < 100 {
		t.Errorf("only %d were taken", taken)
	}
}
