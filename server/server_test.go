package server

import (
	"bytes"
	"encoding/json"
	"fmt"
	"math/rand"
	"strings"
	"testing"

	"tocsin/api"
	"tocsin/disk"
	"tocsin/journal"
)

// What is exported is as it was given.
var (
	_ func(*disk.Disk) api.Errno            = Format
	_ func(*disk.Disk) (*Server, api.Errno) = Open
	_ func(*Server, []byte) []byte          = (*Server).Do
	_ func(*Server, string) string          = (*Server).Run
	_ func(*Server) api.Errno               = (*Server).Close
)

// The commands, as texts.

func event(id, room, sender, kind, more string) string {
	return `{"do":"event","event":{"event_id":"` + id + `","room_id":"` + room + `","sender":"` + sender + `","type":"` + kind + `",` + more + `}}`
}

func member(id, room, user, how string) string {
	return event(id, room, user, "m.room.member", `"state_key":"`+user+`","content":{"membership":"`+how+`"}`)
}

func joins(id, room, user string) string { return member(id, room, user, "join") }

func message(id, room, sender, body string) string {
	return event(id, room, sender, "m.room.message", `"content":{"body":"`+body+`"}`)
}

func redaction(id, room, sender, redacts string) string {
	return event(id, room, sender, "m.room.redaction", `"redacts":"`+redacts+`","content":{}`)
}

func receipt(user, room, id string) string {
	return `{"do":"receipt","user":"` + user + `","room":"` + room + `","event":"` + id + `"}`
}

func countsOf(user string) string { return `{"do":"counts","user":"` + user + `"}` }

func countsIn(user, room string) string {
	return `{"do":"counts","user":"` + user + `","room":"` + room + `"}`
}

func setPusher(user, key string) string {
	return `{"do":"set_pusher","user":"` + user + `","key":"` + key + `","format":"full"}`
}

func pushersOf(user string) string { return `{"do":"pushers","user":"` + user + `"}` }

func rulesOf(user string) string { return `{"do":"rules","user":"` + user + `"}` }

func tick(now int) string { return fmt.Sprintf(`{"do":"tick","now":%d}`, now) }

// padded is a tick that has so many bytes, as it is printed.
func padded(now, size int) string {
	bare := fmt.Sprintf(`{"do":"tick","now":%d,"x":""}`, now)
	return strings.Replace(bare, `""`, `"`+strings.Repeat("a", size-len(bare))+`"`, 1)
}

// The answers, as texts.

const (
	done   = `{"ok":true}`
	ticked = `{"attempts":[],"ok":true}`
	dead   = `{"error":41}`
	full   = `{"error":51}`
	ended  = `{"error":151}`
)

func failed(errno int) string { return fmt.Sprintf(`{"error":%d}`, errno) }

func wrongAt(at, errno int) string { return fmt.Sprintf(`{"at":%d,"error":%d}`, at, errno) }

func placed(place int, told ...string) string {
	return fmt.Sprintf(`{"ok":true,"place":%d,"told":[%s]}`, place, strings.Join(told, ","))
}

func toldOf(user, rule string, notify, highlight bool, sound string) string {
	return fmt.Sprintf(`{"highlight":%t,"notify":%t,"rule":"%s","sound":"%s","user":"%s"}`, highlight, notify, rule, sound, user)
}

func counters(unread, highlight int) string {
	return fmt.Sprintf(`{"highlight":%d,"ok":true,"unread":%d}`, highlight, unread)
}

// blank is a disk of noughts.
func blank(t testing.TB, blocks int) *disk.Disk {
	t.Helper()
	d, errno := disk.New(blocks)
	if errno != api.OK {
		t.Fatalf("D1: New(%d): error %d", blocks, errno)
	}
	return d
}

func formatted(t testing.TB, blocks int) *disk.Disk {
	t.Helper()
	d := blank(t, blocks)
	same(t, "V1: Format", Format(d), api.OK)
	return d
}

func opened(t testing.TB, d *disk.Disk) *Server {
	t.Helper()
	s, errno := Open(d)
	if s == nil || errno != api.OK {
		t.Fatalf("V2: Open gives a server: %t, error %d", s != nil, errno)
	}
	return s
}

// refused wants that a disk is not opened, and that nothing is done to it.
func refused(t testing.TB, what string, d *disk.Disk, want api.Errno) {
	t.Helper()
	like := d.Copy()
	if s, errno := Open(d); s != nil || errno != want {
		t.Errorf("V2, P2: %s: Open gives a server: %t, error %d; want none, and %d", what, s != nil, errno, want)
	}
	alike(t, what, d, like)
}

func same[T comparable](t testing.TB, what string, got, want T) {
	t.Helper()
	if got != want {
		t.Errorf("%s: %v, want %v", what, got, want)
	}
}

// alike wants that two disks are the same in all that can be asked of them.
func alike(t testing.TB, what string, d, like *disk.Disk) {
	t.Helper()
	writes, syncs := d.Costs()
	w, s := like.Costs()
	if writes != w || syncs != s || d.Alive() != like.Alive() || d.Falls() != like.Falls() {
		t.Fatalf("%s: %d writes, %d syncs, alive %t, %d falls; want %d, %d, %t, %d", what, writes, syncs, d.Alive(), d.Falls(), w, s, like.Alive(), like.Falls())
	}
	for i := range d.Blocks() {
		got, _ := d.Read(i)
		want, _ := like.Read(i)
		if !bytes.Equal(got, want) {
			t.Fatalf("%s: block %d is %q, want %q", what, i, got, want)
		}
	}
}

// wants hands a command in, which is to be answered so.
func wants(t testing.TB, promise string, s *Server, command, answer string) {
	t.Helper()
	if got := string(s.Do([]byte(command))); got != answer {
		t.Errorf("%s: %s:\n%s, want\n%s", promise, short(command), got, answer)
	}
}

// does hands commands in, which are to be done.
func does(t testing.TB, s *Server, commands ...string) {
	t.Helper()
	for _, command := range commands {
		if got := string(s.Do([]byte(command))); !strings.Contains(got, `"ok":true`) {
			t.Fatalf("V3: %s: %s", short(command), got)
		}
	}
}

func short(text string) string {
	if len(text) > 300 {
		return fmt.Sprintf("%s.. of %d bytes", text[:300], len(text))
	}
	return text
}

// recordsOn are the snapshot and the records that lie on a disk.
func recordsOn(t testing.TB, d *disk.Disk) (string, []string) {
	t.Helper()
	_, snapshot, records, errno := journal.Open(d.Copy())
	if errno != api.OK {
		t.Fatalf("L2: Open: error %d", errno)
	}
	var out []string
	for _, r := range records {
		out = append(out, string(r))
	}
	return string(snapshot), out
}

func roomOn(t testing.TB, d *disk.Disk) int {
	t.Helper()
	j, _, _, errno := journal.Open(d.Copy())
	if errno != api.OK {
		t.Fatalf("L2: Open: error %d", errno)
	}
	return j.Room()
}

func TestExamplesOfTheChapter(t *testing.T) {
	s := opened(t, formatted(t, 100))
	wants(t, "V3", s, "x", wrongAt(0, 20))
	same(t, "V4: Run", s.Run(`{"do":"counts","room":"!r:home","user":"@a:home"}`+"\n[]"), counters(0, 0)+"\n"+failed(140)+"\n")
	same(t, "V5: Close", s.Close(), api.OK)
	wants(t, "V3", s, "x", ended)
}

func TestExamplesOfTheWhole(t *testing.T) {
	d := formatted(t, 100)
	s := opened(t, d)
	counts := countsIn("@b:home", "!r:home")
	told := func(rule string, highlight bool) string { return toldOf("@b:home", rule, true, highlight, "default") }
	wants(t, "1", s, joins("$1", "!r:home", "@a:home"), placed(1))
	wants(t, "2", s, joins("$2", "!r:home", "@b:home"), placed(2, toldOf("@a:home", "override/.member", false, false, "")))
	wants(t, "3", s, message("$3", "!r:home", "@a:home", "hello"), placed(3, told("underride/.pair", false)))
	wants(t, "4", s, message("$3", "!r:home", "@a:home", "hello"), failed(110))
	wants(t, "5", s, counts, counters(1, 0))
	wants(t, "6", s, message("$4", "!r:home", "@a:home", "hello B!"), placed(4, told("content/.localpart", true)))
	wants(t, "6", s, counts, counters(2, 1))
	wants(t, "7", s, receipt("@b:home", "!r:home", "$3"), `{"changed":true,"ok":true}`)
	wants(t, "7", s, counts, counters(1, 1))
	does(t, s, redaction("$5", "!r:home", "@a:home", "$4"))
	wants(t, "8", s, counts, counters(0, 0))
	wants(t, "9", s, "x", wrongAt(0, 20))
	wants(t, "9", s, `{"do":"tick","now":1.5}`, wrongAt(19, 23))
	does(t, s, message("$6", "!r:home", "@a:home", "b, are you there?"))
	d.Crash(api.Crash{})
	wants(t, "10", s, "x", dead)
	d.Restart()
	wants(t, "10", opened(t, d), counts, counters(1, 1))
}

func TestWhatIsNoValueIsToldWithItsPlace(t *testing.T) { // V3, step 3
	d := formatted(t, 200)
	s := opened(t, d)
	like := d.Copy()
	for _, c := range []struct {
		raw       string
		at, errno int
	}{
		{"", 0, 20}, {"x", 0, 20}, {" ", 1, 20}, {"\n", 1, 20}, {"{", 1, 20}, {`{"do":"rotate"`, 14, 20}, {`{"do":"rotate"}}`, 15, 20}, {"[1,]", 3, 20},
		{`{"do":"rotate"} {"do":"rotate"}`, 16, 20}, {"null null", 5, 20}, {`"a`, 2, 20}, {`{'do':'rotate'}`, 1, 20}, {"\x00", 0, 20}, {"\xef\xbb\xbf{}", 0, 20},
		{strings.Repeat("[", 11), 10, 21}, {`{"do":"event","event":` + strings.Repeat("[", 10), 31, 21},
		{strings.Repeat(" ", 4097), 4096, 22}, {padded(1, 4097), 4096, 22}, {"[" + strings.Repeat("1,", 64) + "1]", 129, 22}, {strings.Repeat("x", 1<<16), 4096, 22},
		{"1.5", 0, 23}, {`{"do":"tick","now":1e3}`, 19, 23}, {"[9007199254740992]", 1, 23},
		{`{"do":"rotate","do":"rotate"}`, 15, 24}, {`{"a":1,"\u0061":x}`, 7, 24},
		{"\"a\xff\"", 2, 10}, {"{\"do\":\"rot\xe2\x82te\"}", 10, 10},
	} {
		wants(t, "V3", s, c.raw, wrongAt(c.at, c.errno))
	}
	same(t, "V3: Do(nil)", string(s.Do(nil)), wrongAt(0, 20))
	alike(t, "V3: of what is no value nothing is written", d, like)
	does(t, s, padded(1, 4096-len("  "))+"  ")
}

func TestWhatOnlyAsksIsNotWritten(t *testing.T) { // V3, step 4
	d := formatted(t, 100)
	s := opened(t, d)
	does(t, s, joins("$1", "!r", "@a:home"), setPusher("@a:home", "k"))
	like := d.Copy()
	wants(t, "V3", s, countsOf("@a:home"), `{"ok":true,"rooms":[{"highlight":0,"room":"!r","unread":0}]}`)
	wants(t, "V3", s, countsIn("@b:home", "!s"), counters(0, 0))
	wants(t, "V3", s, pushersOf("@b:home"), `{"ok":true,"pushers":[]}`)
	does(t, s, rulesOf("@a:home"), rulesOf("@b:home"), pushersOf("@a:home"), `{"do":"room","room":"!r"}`)
	for command, errno := range map[string]int{
		rulesOf("@a:away"): 91, rulesOf("a"): 92, `{"do":"rules"}`: 140, countsIn("@a:home", "r"): 92, `{"do":"room","room":"!s"}`: 2, `{"do":"room"}`: 140, `{"do":"pushers","user":1}`: 140,
		"null": 140, "true": 140, "1": 140, `"rotate"`: 140, "[]": 140, `["rotate"]`: 140, "{}": 140, `{"do":1}`: 140, `{"do":null}`: 140, `{"do":""}`: 140, `{"do":"x"}`: 140, `{"do":"Rotate"}`: 140,
		`{"do":["rotate"]}`: 140, `{"Do":"rotate"}`: 140, `[{"do":"rotate"}]`: 140,
	} {
		wants(t, "V3", s, command, failed(errno))
	}
	alike(t, "V3: nothing is written", d, like)
}

func TestWhatChangesIsARecordAheadOfItsAnswer(t *testing.T) { // V3, steps 5 to 7
	d := formatted(t, 200)
	s := opened(t, d)
	var want []string
	for _, c := range []struct{ raw, record, answer string }{
		{joins("$1", "!r", "@a:home"), `{"do":"event","event":{"content":{"membership":"join"},"event_id":"$1","room_id":"!r","sender":"@a:home","state_key":"@a:home","type":"m.room.member"}}`, placed(1)},
		{" {\t\"now\" : 7,\r\n\"do\":\"t\\u0069ck\" ,\"\\u00e9\\/\":[ -0 ]}\n", `{"do":"tick","now":7,"é/":[0]}`, ticked},
		{`{"do":"tick","now":6}`, `{"do":"tick","now":6}`, failed(141)},
		{`{"do":"tick"}`, `{"do":"tick"}`, failed(140)},
		{`{"do":"event"}`, `{"do":"event"}`, failed(140)},
		{`{"do":"event","event":null}`, `{"do":"event","event":null}`, failed(90)},
		{setPusher("@a:home", "k"), `{"do":"set_pusher","format":"full","key":"k","user":"@a:home"}`, done},
		{`{"do":"remove_pusher","user":"@a:home","key":"l"}`, `{"do":"remove_pusher","key":"l","user":"@a:home"}`, failed(131)},
		{`{"do":"put_rule","user":"@a:home","kind":"room","id":"!r","rule":{"actions":[]}}`, `{"do":"put_rule","id":"!r","kind":"room","rule":{"actions":[]},"user":"@a:home"}`, done},
		{`{"do":"delete_rule","user":"@a:home","kind":"room","id":"!s"}`, `{"do":"delete_rule","id":"!s","kind":"room","user":"@a:home"}`, failed(82)},
		{`{"do":"enable_rule","user":"@a:home","kind":"room","id":"!r","enabled":false}`, `{"do":"enable_rule","enabled":false,"id":"!r","kind":"room","user":"@a:home"}`, done},
		{`{"do":"set_actions","user":"@a:home","kind":"room","id":"!r","actions":[]}`, `{"actions":[],"do":"set_actions","id":"!r","kind":"room","user":"@a:home"}`, done},
		{receipt("@a:home", "!r", "$2"), `{"do":"receipt","event":"$2","room":"!r","user":"@a:home"}`, `{"changed":false,"ok":true}`},
		{`{"do":"reply","attempt":1,"result":"ok"}`, `{"attempt":1,"do":"reply","result":"ok"}`, failed(132)},
		{`{"do":"rotate"}`, `{"do":"rotate"}`, `{"kept":0,"ok":true}`},
		{`{"do":"rotate"}`, `{"do":"rotate"}`, `{"kept":0,"ok":true}`},
	} {
		wants(t, "V3", s, c.raw, c.answer)
		want = append(want, c.record)
		snapshot, records := recordsOn(t, d)
		same(t, "V3: the records", strings.Join(records, "\n"), strings.Join(want, "\n"))
		same(t, "V3: the snapshot", snapshot, "")
	}
	u := opened(t, d)
	same(t, "V2: the same is known behind them", string(u.engine.Save()), string(s.engine.Save()))
}

func TestWhichStepComesFirst(t *testing.T) { // V3
	commands := map[string]string{"x": wrongAt(0, 20), countsIn("@a:home", "!r"): counters(0, 0), "[]": failed(140), `{"do":"tick"}`: failed(140), tick(5): ticked, padded(6, 200): full}
	for command, answer := range commands {
		d := formatted(t, 8)
		s := opened(t, d)
		wants(t, "V3", s, command, answer)

		d = formatted(t, 8)
		s = opened(t, d)
		d.Crash(api.Crash{})
		wants(t, "V3: the fall comes first", s, command, dead)
		like := d.Copy()
		same(t, "V5: Close of a server that has fallen", s.Close(), api.OK)
		wants(t, "V3: the end comes ahead of the fall", s, command, ended)
		alike(t, "V3", d, like)

		d = formatted(t, 8)
		s = opened(t, d)
		s.Close()
		like = d.Copy()
		wants(t, "V3: the end comes first", s, command, ended)
		alike(t, "V3", d, like)
		d.Crash(api.Crash{})
		wants(t, "V3: the end comes ahead of the fall", s, command, ended)
	}
}

func TestAServerThatHasFallenStaysSo(t *testing.T) { // V2, V3
	commands := []string{"x", countsIn("@a:home", "!r"), tick(5), `{"do":"rotate"}`}
	refuses := func(what string, s *Server) {
		t.Helper()
		for _, command := range commands {
			wants(t, what, s, command, dead)
		}
		same(t, what+": Run", s.Run("x\n\n"+tick(6)), strings.Repeat(dead+"\n", 3))
	}
	d := formatted(t, 40)
	s := opened(t, d)
	does(t, s, tick(3))
	d.Crash(api.Crash{})
	refuses("V3: the power is off", s)
	d.Restart()
	refuses("V3: the power is on again", s)
	u := opened(t, d)
	refuses("V3: another one was opened", s)
	wants(t, "V2", u, tick(2), failed(141))
	wants(t, "V2", u, tick(4), ticked)
	refuses("V3: another one was called", s)
	d.Crash(api.Crash{})
	d.Restart()
	refuses("V3: two falls", s)
	refuses("V3: a fall that it did not see", u)
	wants(t, "V2", opened(t, d), tick(3), failed(141))
	same(t, "V1: Format", Format(d), api.OK)
	refuses("V3: the disk was formatted", s)
	refuses("V3: the disk was formatted", u)
	wants(t, "V2", opened(t, d), tick(0), ticked)
	same(t, "V5: Close", s.Close(), api.OK)
	same(t, "V5: Close again", s.Close(), api.ErrDone)
	wants(t, "V3", s, "x", ended)
}

func TestClose(t *testing.T) { // V5
	d := formatted(t, 40)
	s := opened(t, d)
	does(t, s, tick(3))
	like := d.Copy()
	same(t, "V5: Close", s.Close(), api.OK)
	for range 3 {
		same(t, "V5: Close again", s.Close(), api.ErrDone)
		for _, command := range []string{"", "x", "[]", tick(4), countsOf("@a:home")} {
			wants(t, "V3", s, command, ended)
		}
		same(t, "V3: Do(nil)", string(s.Do(nil)), ended)
		same(t, "V4: Run", s.Run("x\n"+tick(5)+"\n"), ended+"\n"+ended+"\n")
		same(t, "V4: Run of nothing", s.Run(""), "")
	}
	alike(t, "V5: nothing is written", d, like)
	u := opened(t, d)
	wants(t, "V5: another one goes on", u, tick(2), failed(141))
	wants(t, "V5: another one goes on", u, tick(4), ticked)
	wants(t, "V3", s, tick(5), ended)
	wants(t, "V5: a server on another disk is not closed", opened(t, like), tick(4), ticked)
	d.Crash(api.Crash{})
	same(t, "V5: Close of one that has fallen", u.Close(), api.OK)
	same(t, "V5: Close again", u.Close(), api.ErrDone)
	same(t, "V5: Close again", s.Close(), api.ErrDone)
}

func TestRun(t *testing.T) { // V4
	wrong := func(at int) string { return wrongAt(at, 20) + "\n" }
	for _, c := range []struct{ lines, answers string }{
		{"", ""},
		{"\n", wrong(0)},
		{"\n\n", wrong(0) + wrong(0)},
		{"x", wrong(0)},
		{"x\n", wrong(0)},
		{"\nx", wrong(0) + wrong(0)},
		{"x\n\n", wrong(0) + wrong(0)},
		{"[\n", wrong(1)},
		{"[", wrong(1)},
		{" \n  ", wrong(1) + wrong(2)},
		{"[1,\n2]", wrong(3) + wrong(1)},
		{"[]\r\n[]\r", failed(140) + "\n" + failed(140) + "\n"},
		{"\r\n", wrong(1)},
		{tick(1), ticked + "\n"},
		{tick(1) + "\n", ticked + "\n"},
		{tick(2) + "\n" + tick(1) + "\n" + tick(2), ticked + "\n" + failed(141) + "\n" + ticked + "\n"},
		{tick(2) + "\n\nx\n" + tick(3) + "\n", ticked + "\n" + wrong(0) + wrong(0) + ticked + "\n"},
		{tick(2) + tick(3), wrong(len(tick(2)))},
		{"\"a\xff\"\n", wrongAt(2, 10) + "\n"},
		{strings.Repeat("x", 5000) + "\nx", wrongAt(4096, 22) + "\n" + wrong(0)},
		{strings.Repeat("\n", 3000), strings.Repeat(wrong(0), 3000)},
		{`{"do":"set_pusher","user":"@a:home","key":"a\nb","format":"full"}`, failed(130) + "\n"},
	} {
		s := opened(t, formatted(t, 40))
		if got := s.Run(c.lines); got != c.answers {
			t.Errorf("V4: Run of %q:\n%q, want\n%q", short(c.lines), short(got), short(c.answers))
		}
		u := opened(t, formatted(t, 40))
		for _, line := range strings.Split(c.lines, "\n") {
			u.Do([]byte(line))
		}
		same(t, "V4: what is known behind Run", string(s.engine.Save()), string(u.engine.Save()))
	}
}

func TestRunGoesOnBehindAFall(t *testing.T) { // V4, V3
	d := formatted(t, 40)
	s := opened(t, d)
	does(t, s, tick(1))
	d.Fuse(0, api.Crash{})
	lines := countsIn("@a:home", "!r") + "\nx\n" + tick(2) + "\n" + tick(3) + "\nx\n"
	same(t, "V4: Run", s.Run(lines), counters(0, 0)+"\n"+wrongAt(0, 20)+"\n"+strings.Repeat(dead+"\n", 3))
	d.Restart()
	wants(t, "V6", opened(t, d), tick(1), ticked)
}

func TestNothingIsKeptOfWhatIsHandedIn(t *testing.T) { // P3
	d := formatted(t, 100)
	s := opened(t, d)
	does(t, s, joins("$1", "!r", "@a:home"), setPusher("@a:home", "k"), joins("$2", "!r", "@b:home"))
	command := message("$3", "!r", "@b:home", "hello")
	room := append([]byte(command), "behind"...)
	answer := s.Do(room[:len(command)])
	same(t, "P3: what was handed in", string(room), command+"behind")
	clear(room)
	clear(answer[:cap(answer)])
	_ = append(answer, "more"...)
	ticks := `{"attempts":[{"id":1,"key":"k","payload":"{\"counts\":{\"unread\":1},\"event\":{\"content\":{\"body\":\"hello\"},\"event_id\":\"$3\",\"room_id\":\"!r\",\"sender\":\"@b:home\",\"type\":\"m.room.message\"},\"tweaks\":{\"sound\":\"default\"}}","user":"@a:home"}],"ok":true}`
	u := opened(t, d.Copy())
	wants(t, "P3", s, tick(1), ticks)
	wants(t, "P3", u, tick(1), ticks)
	first := s.Do([]byte(countsIn("@a:home", "!r")))
	second := s.Do([]byte(countsIn("@a:home", "!r")))
	clear(first[:cap(first)])
	same(t, "P3: two answers share nothing", string(second), counters(1, 0))
	for _, stop := range []func(){func() { d.Crash(api.Crash{}) }, func() { s.Close() }} {
		stop()
		first, second = s.Do(nil), s.Do(nil)
		want := string(second)
		clear(first[:cap(first)])
		same(t, "P3: two refusals share nothing", string(second), want)
		wants(t, "P3", s, "x", want)
	}
}

func TestAnyBytesAreAnswered(t *testing.T) { // P1, V3: each answer is a value, printed
	r := rand.New(rand.NewSource(1))
	d := formatted(t, 60)
	s := opened(t, d)
	pieces := []string{"{", "}", "[", "]", ",", ":", `"do"`, `"tick"`, `"now"`, "1", "-", "\"", "\\", "\n", " ", "\xff", `{"do":"rotate"}`, tick(1), joins("$1", "!r", "@a:home"), "null", `"event":`, "\x00", "é"}
	for range 20000 {
		var raw []byte
		for range r.Intn(8) {
			raw = append(raw, pieces[r.Intn(len(pieces))]...)
		}
		answer := s.Do(raw)
		if !json.Valid(answer) || answer[0] != '{' || bytes.ContainsAny(answer, "\n ") {
			t.Fatalf("P1, V3: %q: %q", raw, answer)
		}
	}
	same(t, "P9: what is known", string(opened(t, d).engine.Save()), string(s.engine.Save()))
}
