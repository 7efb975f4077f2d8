package session

import (
	"fmt"
	"math"
	"strings"
	"testing"

	"tocsin/api"
	"tocsin/wire"
)

// loaded reads a keeper, and wants that just its bytes are read, and that it is saved as the same.
func loaded(t testing.TB, key []byte, bytes string) *Keeper {
	t.Helper()
	in := wire.NewReader([]byte(bytes + "\x04more"))
	k, errno := Load(key, in)
	if k == nil || errno != api.OK {
		t.Fatalf("K6: Load(%.200q): %v, %d; want a keeper, OK", bytes, k != nil, errno)
	}
	if in.Text() != "more" || !in.End() {
		t.Errorf("K6: behind Load(%.200q) the reader is not just behind what was read: %v", bytes, in.Err())
	}
	if saved(k) != bytes {
		t.Errorf("K6: %.200q is saved as %.200q", bytes, saved(k))
	}
	return k
}

// hurt wants that bytes are refused.
func hurt(t testing.TB, what, bytes string) {
	t.Helper()
	if k, errno := Load(noughts, wire.NewReader([]byte(bytes))); k != nil || errno != api.ErrWire {
		t.Errorf("K6, P2: Load of %s, %.200q: %v, %d; want nil, ErrWire", what, bytes, k != nil, errno)
	}
}

// filled is a keeper with live tokens and dues, and some that are over or were taken back.
func filled(t testing.TB) *Keeper {
	a := asker{t, newKeeper(t, noughts, 10, 2, 3)}
	for i, user := range []string{"@b", "@a", "@ab", "@a", "\xff", "@a", "@"} {
		a.issue(user, i, byHand(noughts, user, int64(i+10), int64(i+1)), api.OK)
	}
	for _, user := range []string{"@b", "@over", "@ab", "@a", "\xff", "@", "@b", "\x00"} {
		a.allow(user, 7, true, 0)
	}
	a.allow("@a", 9, true, 0)
	a.allow("@later", 9, true, 0)
	a.revoke(byHand(noughts, "@a", 13, 4), 10, api.OK) // now the first one is over, and all dues of 10
	return a.keeper
}

const filledBytes = "\x14\x04\x06\x14\x0e" +
	"\x05" + "\x04\x02@a\x16" + "\x06\x03@ab\x18" + "\x0a\x01\xff\x1c" + "\x0c\x02@a\x1e" + "\x0e\x01@\x20" +
	"\x03" + "\x02@a\x1a" + "\x02@b\x1a" + "\x06@later\x18"

func TestSave(t *testing.T) {
	k := filled(t)
	for range 20 { // whatever the order of a map
		if got := saved(k); got != filledBytes {
			t.Fatalf("K6, P4: saved as\n%q, want\n%q", got, filledBytes)
		}
	}
	// Behind what was written before, and what is written then.
	w := wire.NewWriter()
	w.Int(7)
	k.Save(w)
	k.Save(w)
	if string(w.Bytes()) != "\x0e"+filledBytes+filledBytes {
		t.Error("K6: Save does not write behind what was written")
	}
	in := wire.NewReader(w.Bytes())
	in.Int()
	for range 2 {
		if l, errno := Load(noughts, in); errno != api.OK || saved(l) != filledBytes {
			t.Errorf("K6: Load from the middle: %d", errno)
		}
	}
	if !in.End() {
		t.Errorf("K6: bytes are left: %v", in.Err())
	}
	// What is loaded goes on apart from the other one.
	l := loaded(t, noughts, filledBytes)
	l.Issue("@a", 11)
	l.RevokeAll("@ab", 11)
	l.Allow("@a", 13)
	if saved(k) != filledBytes || saved(l) == filledBytes {
		t.Error("K6, P4: what is done to a loaded keeper is not done to it alone")
	}
}

func TestSaveOfUsersInOrder(t *testing.T) { // K6: byte by byte, a beginning ahead of what goes on from it
	a := asker{t, newKeeper(t, noughts, 10, 2, 3)}
	for _, user := range []string{"b", "\xff", "ab", "a", "B", "\x00", "a\x00", "é", "aa", strings.Repeat("z", 60), "\x7f", "\x80"} {
		a.allow(user, 0, true, 0)
	}
	want := said(10, 2, 3, 0, 0) + "\x00" + "\x0c"
	for _, user := range []string{"\x00", "B", "a", "a\x00", "aa", "ab", "b", strings.Repeat("z", 60), "\x7f", "\x80", "é", "\xff"} {
		want += saidDue(user, 3)
	}
	if got := saved(a.keeper); got != want {
		t.Errorf("K6: saved as\n%q, want\n%q", got, want)
	}
}

func TestLoadedGoesOn(t *testing.T) {
	a := asker{t, loaded(t, noughts, filledBytes)}
	a.check(byHand(noughts, "@b", 10, 1), 0, "", api.ErrExpired)
	a.check(byHand(noughts, "@a", 11, 2), 0, "@a", api.OK)
	a.check(byHand(noughts, "@a", 13, 4), 0, "", api.ErrRevoked)
	a.check(byHand(noughts, "@a", 11, 2), 11, "", api.ErrExpired)
	a.issue("@c", 3, byHand(noughts, "@c", 20, 8), api.OK)
	a.allow("@a", 9, true, 0)
	a.allow("@a", 9, false, 3)
	a.allow("@later", 0, true, 0)
	a.allow("@over", 0, true, 0)
	a.allow("@over", 0, true, 0)
	a.allow("@over", 0, false, 3)
	a.revokeAll("@a", 10, 2)
	a.revokeAll("\xff", 13, 1)
	a.revokeAll("@ab", 13, 0)
	a.latest(13)
}

// TestLoadOfTokensInAnyOrder: numbers rise; untils need not.
func TestLoadOfTokensInAnyOrder(t *testing.T) {
	k := loaded(t, noughts, said(10, 2, 3, 100, 9)+counted(
		saidToken(1, "@a", 110), saidToken(3, "@a", 101), saidToken(4, "@b", 105), saidToken(8, "@a", 103), saidToken(9, "@a", 110))+"\x00")
	a := asker{t, k}
	a.check(byHand(noughts, "@b", 105, 4), 103, "@b", api.OK)
	if got, want := saved(k), said(10, 2, 3, 103, 9)+counted(saidToken(1, "@a", 110), saidToken(4, "@b", 105), saidToken(9, "@a", 110))+"\x00"; got != want {
		t.Errorf("K6: at 103: %q, want %q", got, want)
	}
	a.issue("@a", 104, byHand(noughts, "@a", 114, 10), api.OK)
	a.revokeAll("@a", 109, 3)
	if got, want := saved(k), said(10, 2, 3, 109, 10)+"\x00\x00"; got != want {
		t.Errorf("K6: at 109: %q, want %q", got, want)
	}
}

func TestLoadOfAKey(t *testing.T) { // K6: ErrArg, and nothing is read
	in := wire.NewReader([]byte(filledBytes))
	for _, n := range []int{0, 1, 15, 65, 66, 1000} {
		if k, errno := Load(make([]byte, n), in); k != nil || errno != api.ErrArg {
			t.Errorf("K6: Load with a key of %d bytes: %v, %d; want nil, ErrArg", n, k != nil, errno)
		}
		if k, errno := Load(make([]byte, n), wire.NewReader(nil)); k != nil || errno != api.ErrArg {
			t.Errorf("K6, P2: ErrArg goes ahead of ErrWire: %v, %d", k != nil, errno)
		}
	}
	if k, errno := Load(nil, in); k != nil || errno != api.ErrArg {
		t.Errorf("K6: Load without a key: %v, %d", k != nil, errno)
	}
	if k, errno := Load(noughts, in); errno != api.OK || saved(k) != filledBytes || !in.End() {
		t.Errorf("K6: what was refused has read something: %d", errno)
	}
	for n := 16; n <= 64; n++ {
		loaded(t, make([]byte, n), filledBytes)
	}
	// The key is not written: another one may be taken, and then no token of the first one is good.
	a := asker{t, loaded(t, otherKey, filledBytes)}
	a.check(byHand(noughts, "@a", 11, 2), 0, "", api.ErrToken)
	a.check(byHand(otherKey, "@a", 11, 2), 0, "@a", api.OK)
}

func TestLoadRefusesCutBytes(t *testing.T) {
	for i := range len(filledBytes) {
		hurt(t, "cut bytes", filledBytes[:i])
	}
	hurt(t, "a number that is too long", "\x94\x00"+filledBytes[1:])
	loaded(t, noughts, said(10, 2, 3, 0, 0)+"\x00\x00")
	in := wire.NewReader([]byte(filledBytes))
	in.Flag() // a fault ahead
	if k, errno := Load(noughts, in); k != nil || errno != api.ErrWire {
		t.Errorf("K6: Load from a reader with a fault: %v, %d", k != nil, errno)
	}
}

func TestLoadOfNumbers(t *testing.T) { // K6: each at its bounds and beside them
	for at, c := range []struct {
		name        string
		least, most int64
	}{
		{"a life", 1, 1000000}, {"a burst", 1, 100}, {"a rate", 1, 1000000}, {"a latest", 0, 1000000000}, {"tokens given", 0, 1000000000},
	} {
		bytes := func(n int64) string {
			numbers := []int64{10, 2, 3, 8, 4}
			numbers[at] = n
			var all string
			for _, n := range numbers {
				all += number(n)
			}
			return all + "\x00\x00"
		}
		for _, n := range []int64{c.least, c.least + 1, c.most - 1, c.most} {
			loaded(t, noughts, bytes(n))
		}
		for _, n := range []int64{c.least - 1, -1, c.most + 1, 1<<32 + 1, math.MaxInt64, math.MinInt64} {
			hurt(t, fmt.Sprint(c.name, " of ", n), bytes(n))
		}
	}
	for _, n := range []int64{math.MaxInt64, math.MinInt64, 1 << 62, -1 << 62} { // numbers whose sums and products would wrap
		wild := number(n)
		hurt(t, "a wild life", wild+said(2, 3, 8, 4)+counted(saidToken(1, "@a", 9))+"\x00")
		hurt(t, "a wild rate", said(10, 2)+wild+said(8, 4)+"\x00"+counted(saidDue("@a", 9)))
		hurt(t, "a wild burst", said(10)+wild+said(3, 8, 4)+"\x00"+counted(saidDue("@a", 9)))
		hurt(t, "a wild latest", said(10, 2, 3)+wild+said(4)+counted(saidToken(1, "@a", math.MinInt64+5))+counted(saidDue("@a", 9)))
	}
}

func TestLoadOfTokens(t *testing.T) { // K6
	bytes := func(tokens ...string) string { return said(10, 2, 3, 8, 4) + counted(tokens...) + "\x00" }
	for _, until := range []int64{9, 10, 17, 18} {
		loaded(t, noughts, bytes(saidToken(1, "@a", until), saidToken(4, "@a", until)))
	}
	for _, until := range []int64{8, 19, 0, -9, 7, 20, 1<<32 + 9, math.MaxInt64, math.MinInt64} {
		hurt(t, fmt.Sprint("an until of ", until), bytes(saidToken(1, "@a", until)))
		hurt(t, fmt.Sprint("an until of ", until), bytes(saidToken(1, "@a", 9), saidToken(2, "@b", until)))
	}
	for _, n := range []int64{0, -1, 5, 1<<32 + 1, math.MaxInt64, math.MinInt64} {
		hurt(t, fmt.Sprint("the number ", n), bytes(saidToken(n, "@a", 9)))
	}
	hurt(t, "the number 5, behind others", bytes(saidToken(1, "@a", 9), saidToken(5, "@a", 9)))
	hurt(t, "the number 0, ahead of others", bytes(saidToken(0, "@a", 9), saidToken(1, "@a", 9)))
	hurt(t, "a token, though none was given", said(10, 2, 3, 8, 0)+counted(saidToken(1, "@a", 9))+"\x00")
	for what, numbers := range map[string][]int64{"a number twice": {1, 1}, "numbers that fall": {2, 1}, "the last ones fall": {1, 3, 2}, "the last one twice": {1, 2, 4, 4}} {
		var tokens []string
		for _, n := range numbers {
			tokens = append(tokens, saidToken(n, fmt.Sprint("@", len(tokens)), 9))
		}
		hurt(t, what, bytes(tokens...))
	}
	for _, user := range wrongUsers {
		hurt(t, fmt.Sprintf("a user of %d bytes", len(user)), bytes(saidToken(1, user, 9)))
		hurt(t, fmt.Sprintf("a user of %d bytes", len(user)), bytes(saidToken(1, "@a", 9), saidToken(2, user, 9)))
	}
	for _, user := range rightUsers {
		loaded(t, noughts, bytes(saidToken(1, user, 9), saidToken(2, "@a", 9)))
	}
	loaded(t, noughts, said(1, 1, 1, 1000000000, 1000000000)+counted(saidToken(1000000000, "@a", 1000000001))+"\x00")
	loaded(t, noughts, said(1000000, 1, 1, 1000000000, 1)+counted(saidToken(1, "@a", 1001000000))+"\x00")
}

func TestLoadOfDues(t *testing.T) { // K6
	bytes := func(dues ...string) string { return said(10, 2, 3, 8, 4) + "\x00" + counted(dues...) }
	for _, due := range []int64{9, 10, 11, 13, 14} {
		loaded(t, noughts, bytes(saidDue("@a", due), saidDue("@b", due)))
	}
	for _, due := range []int64{8, 15, 0, -9, 7, 1<<32 + 9, math.MaxInt64, math.MinInt64} {
		hurt(t, fmt.Sprint("a due of ", due), bytes(saidDue("@a", due)))
		hurt(t, fmt.Sprint("a due of ", due), bytes(saidDue("@a", 9), saidDue("@b", due)))
	}
	for what, users := range map[string][]string{
		"a user twice": {"@a", "@a"}, "users that fall": {"@b", "@a"}, "a beginning behind what goes on from it": {"@ab", "@a"},
		"the last ones fall": {"@a", "@c", "@b"}, "high bytes ahead of low": {"\x80", "\x7f"}, "small letters ahead of great": {"a", "B"},
	} {
		var dues []string
		for i, user := range users {
			dues = append(dues, saidDue(user, int64(9+i)))
		}
		hurt(t, what, bytes(dues...))
	}
	for _, user := range wrongUsers {
		hurt(t, fmt.Sprintf("a user of %d bytes", len(user)), bytes(saidDue(user, 9)))
	}
	for _, user := range rightUsers {
		loaded(t, noughts, bytes(saidDue(user, 9)))
	}
	loaded(t, noughts, said(1, 100, 1000000, 1000000000, 0)+"\x00"+counted(saidDue("@a", 1100000000)))
	hurt(t, "a due above all", said(1, 100, 1000000, 1000000000, 0)+"\x00"+counted(saidDue("@a", 1100000001)))
}

func TestLoadOfMany(t *testing.T) { // K6: lists of at most 1000000 things
	t.Parallel()
	const most = 1000000
	for many, want := range map[int]api.Errno{most: api.OK, most + 1: api.ErrWire} {
		var tokens, dues strings.Builder
		for i := range many {
			fmt.Fprint(&tokens, saidToken(int64(i+1), "u", int64(1+i*7%10)))
			fmt.Fprint(&dues, saidDue(string([]byte{byte(i >> 16), byte(i >> 8), byte(i)}), int64(1+i%6)))
		}
		count := counted(make([]string, many)...)
		for what, bytes := range map[string]string{
			"tokens": said(10, 2, 3, 0, 1000000000) + count + tokens.String() + "\x00",
			"dues":   said(10, 2, 3, 0, 1000000000) + "\x00" + count + dues.String(),
		} {
			k, errno := Load(noughts, wire.NewReader([]byte(bytes)))
			if errno != want || (k == nil) != (want != api.OK) {
				t.Errorf("K6: Load of %d %s: %v, %d; want %d", many, what, k != nil, errno, want)
			}
			if k != nil && saved(k) != bytes {
				t.Errorf("K6: %d %s are saved otherwise", many, what)
			}
		}
	}
	hurt(t, "a count that lies", said(10, 2, 3, 0, 0)+"\xc0\x84\x3d")
	hurt(t, "a count above all", said(10, 2, 3, 0, 0)+"\xff\xff\xff\xff\xff\xff\xff\xff\xff\x01")
}

func TestNilIsNoPanic(t *testing.T) { // P1
	newKeeper(t, noughts, 10, 2, 3).Save(nil)
	if k, errno := Load(noughts, nil); k != nil || errno != api.ErrWire {
		t.Errorf("Load from nothing: %v, %d", k != nil, errno)
	}
	if k, errno := Load(nil, nil); k != nil || errno != api.ErrArg {
		t.Errorf("Load from nothing without a key: %v, %d", k != nil, errno)
	}
}
