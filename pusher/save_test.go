package pusher

import (
	"fmt"
	"math"
	"strings"
	"testing"

	"tocsin/api"
	"tocsin/wire"
)

// loaded reads a post, and wants that just its bytes are read, and that it is saved as the same.
func loaded(t testing.TB, bytes string) *Post {
	t.Helper()
	in := wire.NewReader([]byte(bytes + "\x04more"))
	p, errno := Load(in)
	if p == nil || errno != api.OK {
		t.Fatalf("U7: Load(%.200q): %v, %d; want a post, OK", bytes, p != nil, errno)
	}
	if in.Text() != "more" || !in.End() {
		t.Errorf("U7: behind Load(%.200q) the reader is not just behind what was read: %v", bytes, in.Err())
	}
	if saved(p) != bytes {
		t.Errorf("U7: %.200q is saved as %.200q", bytes, saved(p))
	}
	return p
}

// hurt wants that bytes are refused.
func hurt(t testing.TB, what, bytes string) {
	t.Helper()
	if p, errno := Load(wire.NewReader([]byte(bytes))); p != nil || errno != api.ErrWire {
		t.Errorf("U7, P2: Load of %s, %.200q: %v, %d; want nil, ErrWire", what, bytes, p != nil, errno)
	}
}

// filled is a post of four pushers: one that is tried, one that has failed, a full one that has dropped two, an empty one.
func filled(t testing.TB) *Post {
	a := asker{t, New()}
	a.set("@b", "l", "event_id_only", api.OK)
	a.set("@b", "k", "full", api.OK)
	a.push("@b", 1)
	a.post.Tick(0)
	a.reply(2, "fail", 5, api.OK)
	a.set("", "~", "full", api.OK)
	a.set("@a", "!", "event_id_only", api.OK)
	for n := range 10 {
		a.push("@a", n)
	}
	return a.post
}

func filledBytes() string {
	var ten []string
	for n := range 10 {
		ten = append(ten, told("event_id_only", plain(), api.Actions{}, n))
	}
	return "\x06\x04" + "\x00\x01~\x01\x00\x00\x00\x00\x00" +
		"\x02@a\x01!\x00" + "\x08" + saidText(ten[2]) + saidText(ten[3]) + saidText(ten[4]) + saidText(ten[5]) + saidText(ten[6]) + saidText(ten[7]) + saidText(ten[8]) + saidText(ten[9]) + "\x00\x00\x04\x00" +
		"\x02@b\x01k\x01" + "\x01" + saidText(`{"counts":{"unread":1},"event":{"event_id":"$1","room_id":"!r"},"tweaks":{}}`) + "\x00\x00\x00\x02" +
		"\x02@b\x01l\x00" + "\x01" + saidText(ten[1]) + "\x02\x0e\x00\x00"
}

func TestSave(t *testing.T) {
	t.Parallel()
	p := filled(t)
	for range 20 {
		if got := saved(p); got != filledBytes() {
			t.Fatalf("U7, P4: saved as\n%q, want\n%q", got, filledBytes())
		}
	}
	// Behind what was written before, and what is written then.
	w := wire.NewWriter()
	w.Int(7)
	p.Save(w)
	p.Save(w)
	if string(w.Bytes()) != "\x0e"+filledBytes()+filledBytes() {
		t.Error("U7: Save does not write behind what was written")
	}
	in := wire.NewReader(w.Bytes())
	in.Int()
	for range 2 {
		if q, errno := Load(in); errno != api.OK || saved(q) != filledBytes() {
			t.Errorf("U7: Load from the middle: %d", errno)
		}
	}
	if !in.End() {
		t.Errorf("U7: bytes are left: %v", in.Err())
	}
	// What is loaded goes on apart from the other one.
	q := loaded(t, filledBytes())
	q.Set("@b", "l", "full")
	q.Push("@a", nil, api.Actions{}, 0)
	q.Remove("", "~")
	q.Reply(1, "ok", 0)
	if saved(p) != filledBytes() || saved(q) == filledBytes() {
		t.Error("U7, P4: what is done to a loaded post is not done to it alone")
	}
}

func TestLoadedGoesOn(t *testing.T) {
	t.Parallel()
	for what, p := range map[string]*Post{"saved": filled(t), "loaded": loaded(t, filledBytes())} {
		t.Run(what, func(t *testing.T) {
			a := asker{t, p}
			a.prints("", row("~", "full", 0, 0, 0, 0, 0))
			a.prints("@a", row("!", "event_id_only", 8, 0, 0, 2, 0))
			a.prints("@b", row("k", "full", 1, 0, 0, 0, 1), row("l", "event_id_only", 1, 1, 7, 0, 0))
			a.tick(6, try(3, "@a", "!", 2))
			a.push("@a", 10)
			a.reply(3, "ok", 6, api.ErrAttempt)
			a.reply(2, "ok", 6, api.ErrAttempt)
			a.reply(1, "fail", 6, api.OK)
			a.tick(7, try(4, "@a", "!", 3), try(5, "@b", "l", 1))
			a.reply(5, "fail", 7, api.OK)
			a.prints("@b", row("k", "full", 1, 1, 8, 0, 0), row("l", "event_id_only", 1, 2, 11, 0, 0))
			a.set("@b", "m", "full", api.OK)
			a.set("@b", "n", "full", api.OK)
			a.set("@b", "o", "full", api.ErrMany)
			a.reply(4, "rejected", 7, api.OK)
			a.prints("@a")
			loaded(t, saved(p))
		})
	}
}

func TestLoadRefusesCutBytes(t *testing.T) {
	t.Parallel()
	bytes := filledBytes()
	for i := range len(bytes) {
		hurt(t, "cut bytes", bytes[:i])
	}
	loaded(t, "\x02\x00")
}

// saidPost is a post as it is saved, with a next number.
func saidPost(next int64, pushers ...string) string { return saidNumber(next) + counted(pushers...) }

func TestLoadRefusesTheNextNumber(t *testing.T) {
	t.Parallel()
	for _, next := range []int64{1, 2, 1 << 32, api.MaxInt - 1, api.MaxInt, api.MaxInt + 1} {
		loaded(t, saidPost(next))
	}
	for _, next := range []int64{0, -1, math.MinInt64, math.MinInt64 + 1, -api.MaxInt, api.MaxInt + 2, math.MaxInt64} {
		hurt(t, fmt.Sprint("the next number ", next), saidPost(next))
		hurt(t, fmt.Sprint("the next number ", next), saidPost(next, saidPusher("@a", "k", true, nil, 0, 0, 0, 0)))
	}
}

func TestLoadRefusesNames(t *testing.T) {
	t.Parallel()
	sixty := strings.Repeat("x", 60)
	of := func(user, key string) string { return saidPost(1, saidPusher(user, key, true, nil, 0, 0, 0, 0)) }
	for _, user := range []string{"", "@a", "\x00\xff", sixty} {
		for _, key := range []string{"k", "!", "~", sixty} {
			loaded(t, of(user, key))
		}
	}
	hurt(t, "a user of 61 bytes", of(sixty+"x", "k"))
	hurt(t, "a user of 61 bytes", of(strings.Repeat("é", 30)+"x", "k"))
	for _, key := range []string{"", sixty + "x", " ", "k k", "\x7f", "\x00", "é", "k\xff"} {
		hurt(t, fmt.Sprintf("the key %q", key), of("@a", key))
	}
}

func TestLoadRefusesTheOrder(t *testing.T) {
	t.Parallel()
	of := func(names ...string) string {
		var row []string
		for i := 0; i < len(names); i += 2 {
			row = append(row, saidPusher(names[i], names[i+1], i%4 == 0, nil, 0, 0, 0, 0))
		}
		return saidPost(1, row...)
	}
	loaded(t, of("", "k", "\x00", "k", "@a", "a", "@a", "aa", "@a", "b", "@aa", "a", "@b", "a", "\x80", "a", "\xff", "!"))
	for what, row := range map[string][]string{
		"users out of order":        {"@b", "k", "@a", "k"},
		"a user behind who goes on": {"@aa", "k", "@a", "k"},
		"the empty user behind":     {"@a", "k", "", "k"},
		"keys out of order":         {"@a", "l", "@a", "k"},
		"a key behind what goes on": {"@a", "kk", "@a", "k"},
		"one twice":                 {"@a", "k", "@a", "k"},
		"one twice, far apart":      {"@a", "k", "@a", "l", "@a", "k"},
		"by keys, then users":       {"@b", "a", "@a", "b"},
		"high bytes ahead of low":   {"\x80", "k", "\x7f", "k"},
		"the last one":              {"@a", "k", "@b", "k", "@c", "l", "@c", "k"},
		"as if put together":        {"@ab", "c", "@a", "bd"},
	} {
		hurt(t, what, of(row...))
	}
	four := []string{"@b", "a", "@b", "b", "@b", "c", "@b", "d"}
	loaded(t, of(append([]string{"@a", "a"}, append(four, "@c", "a")...)...))
	hurt(t, "five of a user", of(append(four, "@b", "e")...))
	hurt(t, "five of a user", of(append([]string{"@a", "a"}, append(four, "@b", "e", "@c", "a")...)...))
	hurt(t, "six of a user", of(append(four, "@b", "e", "@b", "f")...))
	eight := append(four, "@c", "a", "@c", "b", "@c", "c", "@c", "d")
	loaded(t, of(eight...))
	hurt(t, "five of the last user", of(append(eight, "@c", "e")...))
}

func TestLoadRefusesAttempts(t *testing.T) {
	t.Parallel()
	with := func(key string, attempt int64) string {
		return saidPusher("@a", key, true, []string{"n"}, 0, 0, 0, attempt)
	}
	for _, attempt := range []int64{0, 1, 2, 6} {
		loaded(t, saidPost(7, with("k", attempt)))
	}
	loaded(t, saidPost(api.MaxInt+1, with("k", api.MaxInt)))
	for _, attempt := range []int64{-1, 7, 8, math.MinInt64, math.MaxInt64, api.MaxInt, 1 << 32, 1<<32 + 1} {
		hurt(t, fmt.Sprint("the attempt ", attempt), saidPost(7, with("k", attempt)))
		hurt(t, fmt.Sprint("the attempt ", attempt), saidPost(7, with("k", 0), with("l", attempt)))
	}
	hurt(t, "the attempt MaxInt + 1", saidPost(api.MaxInt+1, with("k", api.MaxInt+1)))
	hurt(t, "an attempt ahead of the first", saidPost(1, with("k", 1)))
	loaded(t, saidPost(7, with("k", 6), with("l", 0), with("m", 2), with("n", 0)))
	hurt(t, "an attempt twice", saidPost(7, with("k", 2), with("l", 2)))
	hurt(t, "an attempt twice, far apart", saidPost(7, with("k", 2), with("l", 6), with("m", 0), with("n", 2)))
	hurt(t, "an attempt and nothing waits", saidPost(7, saidPusher("@a", "k", true, nil, 0, 0, 0, 3)))
	hurt(t, "an attempt and nothing waits", saidPost(7, with("a", 2), saidPusher("@a", "k", true, nil, 0, 0, 0, 3)))
	loaded(t, saidPost(7, saidPusher("@a", "k", true, []string{""}, 0, 0, 0, 3)))
}

func TestLoadRefusesTheQueue(t *testing.T) {
	t.Parallel()
	of := func(failures, until, dropped int64) string {
		return saidPost(1, saidPusher("@a", "a", true, nil, 0, 0, 0, 0), saidPusher("@a", "k", true, []string{"n"}, failures, until, dropped, 0))
	}
	for _, n := range []int64{0, 1, 999999999, 1000000000} {
		loaded(t, of(n, 0, 0))
		loaded(t, of(0, n, 0))
		loaded(t, of(0, 0, n))
	}
	loaded(t, of(1000000000, 2000000000, 1000000000))
	loaded(t, saidPost(1, saidPusher("@a", "a", true, nil, 3, 4, 5, 0))) // nothing need wait
	for _, n := range []int64{-1, math.MinInt64, math.MinInt64 + 1, 2000000001, math.MaxInt64, 1 << 32, 1 << 62} {
		hurt(t, fmt.Sprint("failures ", n), of(n, 0, 0))
		hurt(t, fmt.Sprint("until ", n), of(0, n, 0))
		hurt(t, fmt.Sprint("dropped ", n), of(0, 0, n))
	}
	hurt(t, "failures above", of(1000000001, 0, 0))
	hurt(t, "dropped above", of(0, 0, 1000000001))
}

func TestLoadPayloads(t *testing.T) {
	t.Parallel()
	strange := []string{"", "x", "\xff\x00", strings.Repeat("long", 5000), "", "{", "x", "null"}
	a := asker{t, loaded(t, saidPost(1, saidPusher("@a", "k", true, strange, 0, 0, 0, 0)))}
	for i, want := range strange {
		a.tick(0, api.Attempt{ID: i + 1, User: "@a", Key: "k", Payload: want})
		a.reply(i+1, "ok", 0, api.OK)
	}
	hurt(t, "nine notes", saidPost(1, saidPusher("@a", "k", true, append(strange, ""), 0, 0, 0, 0)))
	hurt(t, "a truth of 2", saidPost(1, "\x02@a\x01k\x02\x00\x00\x00\x00\x00"))
	hurt(t, "a count that is too long", "\x02\x81\x00"+saidPusher("@a", "k", true, nil, 0, 0, 0, 0))
}

func TestLoadOfReaders(t *testing.T) {
	t.Parallel()
	if p, errno := Load(nil); p != nil || errno != api.ErrWire {
		t.Errorf("P1: Load(nil): %v, %d", p, errno)
	}
	if p, errno := Load(&wire.Reader{}); p != nil || errno != api.ErrWire {
		t.Errorf("P1: Load of a reader of nothing: %v, %d", p, errno)
	}
	in := wire.NewReader([]byte("\x02" + filledBytes()))
	in.Flag() // there is a fault ahead
	if p, errno := Load(in); p != nil || errno != api.ErrWire {
		t.Errorf("U7: Load behind a fault: %v, %d", p, errno)
	}
	New().Save(nil)
	w := &wire.Writer{}
	filled(t).Save(w)
	if string(w.Bytes()) != filledBytes() {
		t.Errorf("U7: saved as %q", w.Bytes())
	}
}

// each is a row of so many pushers, of which the one gives each by its number.
func each(many int, one func(i int) string) string {
	w := wire.NewWriter()
	wire.WriteList(w, make([]struct{}, many), func(*wire.Writer, struct{}) {})
	var all strings.Builder
	all.Write(w.Bytes())
	for i := range many {
		all.WriteString(one(i))
	}
	return all.String()
}

func TestLoadManyPushers(t *testing.T) {
	t.Parallel()
	const most = 1000000
	pusher := func(i int) string { // users of greater numbers stand behind
		return "\x03" + string([]byte{byte(i >> 16), byte(i >> 8), byte(i)}) + "\x01k\x00\x00\x00\x00\x00\x00"
	}
	a := asker{t, loaded(t, "\x02"+each(most, pusher))}
	hurt(t, "a pusher too many", "\x02"+each(most+1, pusher))
	hurt(t, "a pusher too many, of which none is there", "\x02"+each(most+1, func(int) string { return "" }))
	// A post may have more than Load reads.
	if errno := a.post.Set("\xff", "k", "event_id_only"); errno != api.OK {
		t.Errorf("U2: Set of one more: %d", errno)
	}
	a.push("\xff", 1)
	a.push("\x00\x00\x07", 2)
	a.tick(0, try(1, "\x00\x00\x07", "k", 2), try(2, "\xff", "k", 1))
	hurt(t, "what was saved with a pusher too many", saved(a.post))
	if errno := a.post.Reply(2, "rejected", 0); errno != api.OK {
		t.Errorf("U5: Reply of the last one: %d", errno)
	}
	loaded(t, saved(a.post))
}

func TestLoadCountsThatLie(t *testing.T) {
	t.Parallel()
	for _, n := range []string{"\xff\xff\xff\xff\xff\xff\xff\xff\xff\x01", "\xc0\x84\x3d", "\x88\x27", "\xff\xff\xff\xff\x07"} {
		hurt(t, "pushers that are not there", "\x02"+n)
		hurt(t, "a user that is not there", "\x02\x01"+n)
		hurt(t, "a key that is not there", "\x02\x01\x01a"+n)
		hurt(t, "notes that are not there", "\x02\x01\x01a\x01k\x00"+n)
		hurt(t, "a note that is not there", "\x02\x01\x01a\x01k\x00\x01"+n)
	}
}
