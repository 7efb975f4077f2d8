package session

import (
	"bytes"
	"encoding/base64"
	"fmt"
	"math"
	"slices"
	"strings"
	"testing"

	"tocsin/api"
	"tocsin/wire"
)

// An asker asks a keeper, and wants answers.
type asker struct {
	testing.TB
	keeper *Keeper
}

func (a asker) issue(user string, now int, want string, wantErrno api.Errno) {
	a.Helper()
	if got, errno := a.keeper.Issue(user, now); got != want || errno != wantErrno {
		a.Errorf("K2: Issue(%.70q, %d): %q, %d; want %q, %d", user, now, got, errno, want, wantErrno)
	}
}

func (a asker) check(token string, now int, want string, wantErrno api.Errno) {
	a.Helper()
	if got, errno := a.keeper.Check(token, now); got != want || errno != wantErrno {
		a.Errorf("K3: Check(%.200q, %d): %.70q, %d; want %.70q, %d", token, now, got, errno, want, wantErrno)
	}
}

func (a asker) revoke(token string, now int, want api.Errno) {
	a.Helper()
	if errno := a.keeper.Revoke(token, now); errno != want {
		a.Errorf("K4: Revoke(%.200q, %d): %d, want %d", token, now, errno, want)
	}
}

func (a asker) revokeAll(user string, now, want int) {
	a.Helper()
	if many := a.keeper.RevokeAll(user, now); many != want {
		a.Errorf("K4: RevokeAll(%.70q, %d): %d, want %d", user, now, many, want)
	}
}

func (a asker) allow(user string, now int, want bool, wantWait int) {
	a.Helper()
	if yes, wait := a.keeper.Allow(user, now); yes != want || wait != wantWait {
		a.Errorf("K5: Allow(%.70q, %d): %v, %d; want %v, %d", user, now, yes, wait, want, wantWait)
	}
}

// refused wants that calls change nothing, the latest neither.
func (a asker) refused(what string, calls func()) {
	a.Helper()
	was := saved(a.keeper)
	calls()
	if now := saved(a.keeper); now != was {
		a.Errorf("P2, Words: %s is refused, and changes %q to %q", what, was, now)
	}
}

// latest wants a time up to which the keeper has come.
func (a asker) latest(want int) {
	a.Helper()
	r := wire.NewReader([]byte(saved(a.keeper)))
	for range 3 {
		r.Int()
	}
	if got := int(r.Int()); got != want {
		a.Errorf("Words: the latest is %d, want %d", got, want)
	}
}

var (
	wrongTimes = []int{-1, 1000000001, -1000000000, math.MinInt, math.MaxInt}
	wrongUsers = []string{"", strings.Repeat("u", 61), strings.Repeat("ü", 31), strings.Repeat("u", 5000)}
	rightUsers = []string{"@a", "u", "\x00", "\xff\xfe", strings.Repeat("u", 60), strings.Repeat("ü", 30), "@a:home", " ", "ä"}
)

func TestNew(t *testing.T) { // K1: at the bounds and beside them
	for _, c := range []struct {
		name        string
		least, most int
		made        func(n int) (*Keeper, api.Errno)
	}{
		{"a key's length", 16, 64, func(n int) (*Keeper, api.Errno) { return New(make([]byte, max(n, 0)), 10, 2, 3) }},
		{"a life", 1, 1000000, func(n int) (*Keeper, api.Errno) { return New(noughts, n, 2, 3) }},
		{"a burst", 1, 100, func(n int) (*Keeper, api.Errno) { return New(noughts, 10, n, 3) }},
		{"a rate", 1, 1000000, func(n int) (*Keeper, api.Errno) { return New(noughts, 10, 2, n) }},
	} {
		for _, n := range []int{c.least, c.least + 1, (c.least + c.most) / 2, c.most - 1, c.most} {
			if k, errno := c.made(n); k == nil || errno != api.OK {
				t.Errorf("K1: %s of %d: %v, %d; want a keeper, OK", c.name, n, k != nil, errno)
			}
		}
		for _, n := range []int{0, c.least - 1, c.most + 1, 2 * c.most} {
			if k, errno := c.made(n); k != nil || errno != api.ErrArg {
				t.Errorf("K1, P2: %s of %d: %v, %d; want nil, ErrArg", c.name, n, k != nil, errno)
			}
		}
		if c.least == 1 {
			for _, n := range []int{-1, math.MinInt, math.MaxInt, math.MinInt + 1, 1<<32 + 1} {
				if k, errno := c.made(n); k != nil || errno != api.ErrArg {
					t.Errorf("K1, P2: %s of %d: %v, %d; want nil, ErrArg", c.name, n, k != nil, errno)
				}
			}
		}
	}
	for _, key := range [][]byte{nil, {}} {
		if k, errno := New(key, 10, 2, 3); k != nil || errno != api.ErrArg {
			t.Errorf("K1: New without a key: %v, %d", k != nil, errno)
		}
	}
	if got := saved(newKeeper(t, noughts, 10, 2, 3)); got != said(10, 2, 3, 0, 0)+"\x00\x00" {
		t.Errorf("K1: a new keeper is saved as %q", got)
	}
}

func TestKeysOfEachLength(t *testing.T) { // K1, K2: a token is under the whole key
	for n := 16; n <= 64; n++ {
		key := []byte(strings.Repeat("0123456789abcdef", 4)[:n])
		a := asker{t, newKeeper(t, key, 10, 2, 3)}
		a.issue("@a", 5, byHand(key, "@a", 15, 1), api.OK)
		a.check(byHand(key, "@a", 15, 1), 5, "@a", api.OK)
		key[n-1]++
		a.check(byHand(key, "@a", 15, 1), 5, "", api.ErrToken)
	}
}

func TestKeyIsNotKept(t *testing.T) { // P3: nor written into, nor what stands behind it
	room := []byte("a key of 20 bytes ..and more")
	was := string(room)
	k, _ := New(room[:20], 10, 2, 3)
	l, errno := Load(room[:20], wire.NewReader([]byte(saved(k))))
	if errno != api.OK {
		t.Fatalf("K6: Load: %d", errno)
	}
	for _, k := range []*Keeper{k, l} {
		copy(room, was)
		a := asker{t, k}
		token := byHand([]byte(was[:20]), "@a", 10, 1)
		a.issue("@a", 0, token, api.OK)
		if string(room) != was {
			t.Fatal("P3: the key is written into")
		}
		clear(room)
		a.check(token, 0, "@a", api.OK)
		a.issue("@a", 0, byHand([]byte(was[:20]), "@a", 10, 2), api.OK)
	}
}

func TestExamples(t *testing.T) { // the document's
	a := asker{t, newKeeper(t, noughts, 10, 2, 3)}
	token := byHand(noughts, "@a", 15, 1)
	a.issue("@a", 5, token, api.OK)
	if b, err := base64.RawURLEncoding.DecodeString(token); err != nil || !bytes.HasPrefix(b, []byte{2, 0x40, 0x61, 0x1e, 2}) || len(b) != 37 {
		t.Errorf("its bytes are %x", b)
	}
	a.check(token, 14, "@a", api.OK)
	a.check(token, 15, "", api.ErrExpired)
	a.check(token, 0, "@a", api.OK)
	a.latest(14)
	a.revoke(token, 14, api.OK)
	a.check(token, 14, "", api.ErrRevoked)

	a.allow("@a", 20, true, 0)
	a.allow("@a", 20, true, 0)
	a.allow("@a", 20, false, 3)
	a.allow("@a", 22, false, 1)
	a.allow("@a", 23, true, 0)
	a.allow("@a", 24, false, 2)
	if got, want := saved(a.keeper), said(10, 2, 3, 24, 1)+"\x00"+counted(saidDue("@a", 29)); got != want {
		t.Errorf("K5: the due is not 29: %q, want %q", got, want)
	}

	for _, text := range []string{"", "AAAA"} {
		a.check(text, 30, "", api.ErrToken)
		a.check(text, -1, "", api.ErrArg)
	}
	a.latest(24)
}

func TestIssue(t *testing.T) { // K2
	a := asker{t, newKeeper(t, noughts, 10, 2, 3)}
	for i, user := range rightUsers {
		a.issue(user, 2*i, byHand(noughts, user, int64(2*i+10), int64(i+1)), api.OK)
	}
	n := int64(len(rightUsers))
	last := int64(2 * (n - 1))
	a.issue("@b", 3, byHand(noughts, "@b", last+10, n+1), api.OK) // the time never goes back
	a.issue("@b", 3, byHand(noughts, "@b", last+10, n+2), api.OK) // a second one is another one
	a.refused("a wrong Issue", func() {
		for _, now := range append(wrongTimes, 0, 500, 1000000000) {
			for _, user := range wrongUsers {
				a.issue(user, now, "", api.ErrArg)
			}
		}
		for _, now := range wrongTimes {
			a.issue("@a", now, "", api.ErrArg)
		}
	})
	a.issue("@b", 1000000000, byHand(noughts, "@b", 1000000010, n+3), api.OK) // what was refused had no number
	a.check(byHand(noughts, "@b", 1000000010, n+3), 1000000000, "@b", api.OK)
}

func TestIssueAtTheBounds(t *testing.T) { // K1, K2: lifes of 1 and MaxLife
	a := asker{t, newKeeper(t, noughts, 1, 1, 1)}
	token := byHand(noughts, "@a", 1, 1)
	a.issue("@a", 0, token, api.OK)
	a.check(token, 0, "@a", api.OK)
	a.check(token, 1, "", api.ErrExpired)
	a = asker{t, newKeeper(t, noughts, 1000000, 1, 1)}
	token = byHand(noughts, "@a", 1000000, 1)
	a.issue("@a", 0, token, api.OK)
	a.check(token, 999999, "@a", api.OK)
	a.check(token, 1000000, "", api.ErrExpired)
}

func TestLastToken(t *testing.T) { // K2: ErrState behind MaxTime tokens, ErrArg ahead of that
	for _, given := range []int{999999998, 999999999, 1000000000} {
		k, errno := Load(noughts, wire.NewReader([]byte(said(10, 2, 3, 8, given)+"\x00\x00")))
		if errno != api.OK {
			t.Fatalf("K6: Load of a keeper that has given %d: %d", given, errno)
		}
		a := asker{t, k}
		for n := given + 1; n <= 1000000000; n++ {
			a.issue("@a", 0, byHand(noughts, "@a", 18, int64(n)), api.OK)
		}
		a.refused("a token more", func() {
			a.issue("@a", 0, "", api.ErrState)
			a.issue("@a", 9, "", api.ErrState)
			a.issue("", 9, "", api.ErrArg)
			a.issue("@a", -1, "", api.ErrArg)
			a.issue("@a", 1000000001, "", api.ErrArg)
		})
		a.latest(8)
		a.allow("@a", 9, true, 0) // all else goes on
	}
}

func TestAtItsUntil(t *testing.T) { // K3, K4: one tick ahead of it, at it, behind it
	for _, life := range []int{1, 2, 10} {
		a := asker{t, newKeeper(t, noughts, life, 2, 3)}
		token := byHand(noughts, "@a", int64(7+life), 1)
		a.issue("@a", 7, token, api.OK)
		a.refused("what is over", func() {
			for _, now := range []int{7 + life, 8 + life, 1000000000} {
				a.check(token, now, "", api.ErrExpired)
				a.revoke(token, now, api.ErrExpired)
			}
		})
		a.check(token, 7, "@a", api.OK)
		a.check(token, 6+life, "@a", api.OK)
		a.latest(6 + life)
		a.check(token, 0, "@a", api.OK)
		a.allow("@b", 7+life, true, 0) // now the time has come
		a.refused("what is over", func() {
			a.check(token, 0, "", api.ErrExpired)
			a.revoke(token, 0, api.ErrExpired)
		})
		a.revokeAll("@a", 0, 0)
	}
}

func TestTimeNeverGoesBack(t *testing.T) { // Words: by each call that is not refused
	token := byHand(noughts, "@a", 1000, 1)
	for name, call := range map[string]func(a asker, now int){
		"Issue":                    func(a asker, now int) { a.keeper.Issue("@b", now) },
		"Check":                    func(a asker, now int) { a.check(token, now, "@a", api.OK) },
		"Revoke":                   func(a asker, now int) { a.revoke(byHand(noughts, "@c", 1000, 2), now, api.OK) },
		"RevokeAll":                func(a asker, now int) { a.revokeAll("@c", now, 1) },
		"RevokeAll of none":        func(a asker, now int) { a.revokeAll("@x", now, 0) },
		"RevokeAll of no user":     func(a asker, now int) { a.revokeAll("", now, 0) },
		"RevokeAll of a long text": func(a asker, now int) { a.revokeAll(strings.Repeat("u", 61), now, 0) },
		"Allow":                    func(a asker, now int) { a.allow("@b", now, true, 0) },
		"Allow that is false": func(a asker, now int) {
			a.keeper.Allow("@c", 0)
			a.allow("@c", now, false, 1000-now)
		},
	} {
		t.Run(name, func(t *testing.T) {
			a := asker{t, newKeeper(t, noughts, 1000, 1, 1000)}
			a.issue("@a", 0, token, api.OK)
			a.issue("@c", 0, byHand(noughts, "@c", 1000, 2), api.OK)
			call(a, 500)
			a.latest(500)
			k := a.keeper
			issued, _ := k.Issue("@d", 3)
			a.check(issued, 1499, "@d", api.OK)
			a.check(issued, 1500, "", api.ErrExpired)
			a.latest(1499)
		})
	}
	a := asker{t, newKeeper(t, noughts, 1000, 1, 1000)}
	a.issue("@a", 0, token, api.OK)
	a.keeper.Revoke(token, 0)
	a.allow("@a", 2, true, 0)
	a.refused("each call that is refused", func() {
		a.check(token, 700, "", api.ErrRevoked)
		a.revoke(token, 700, api.ErrRevoked)
		a.check(token, 1001, "", api.ErrExpired)
		a.revoke(token, 1001, api.ErrExpired)
		a.check("no token", 700, "", api.ErrToken)
		a.revoke("no token", 700, api.ErrToken)
		for _, now := range wrongTimes {
			a.check(token, now, "", api.ErrArg)
			a.revoke(token, now, api.ErrArg)
			a.revokeAll("@a", now, 0)
			a.revokeAll("", now, 0)
			a.allow("@a", now, false, 0)
			a.allow("", now, false, 0)
		}
		for _, user := range wrongUsers {
			a.allow(user, 700, false, 0)
			a.issue(user, 700, "", api.ErrArg)
		}
	})
}

// faulty wants that a text is no token, for Check and Revoke, and that a wrong time goes ahead of that.
func (a asker) faulty(text string) {
	a.Helper()
	for _, now := range []int{0, 14, 1000000000} {
		a.check(text, now, "", api.ErrToken)
		a.revoke(text, now, api.ErrToken)
	}
	a.check(text, -1, "", api.ErrArg)
	a.revoke(text, 1000000001, api.ErrArg)
}

func TestBentTokens(t *testing.T) { // K3: cut off, bent in each sign, bit and byte, with signs more
	a := asker{t, newKeeper(t, noughts, 10, 2, 3)}
	token := byHand(noughts, "@a:home", 15, 1)
	a.issue("@a:home", 5, token, api.OK)
	const signs = "ABCDEFGHIJKLMNOPQRSTUVWXYZabcdefghijklmnopqrstuvwxyz0123456789-_"
	a.refused("what is no token", func() {
		for i := range token {
			a.faulty(token[:i])
			a.faulty(token[i+1:])
			a.faulty(token[:i] + token[i+1:])
			for _, sign := range signs + "=+/ .\n\x00é" {
				a.faulty(token[:i] + string(sign) + token[i:])
				if bent := token[:i] + string(sign) + token[i+1:]; bent != token {
					a.faulty(bent)
				}
			}
		}
		raw, _ := base64.RawURLEncoding.DecodeString(token)
		for bit := range 8 * len(raw) {
			bent := bytes.Clone(raw)
			bent[bit/8] ^= 1 << (bit % 8)
			a.faulty(base64.RawURLEncoding.EncodeToString(bent))
		}
		for i := range raw {
			a.faulty(base64.RawURLEncoding.EncodeToString(raw[:i]))
			a.faulty(base64.RawURLEncoding.EncodeToString(raw[i+1:]))
			a.faulty(base64.RawURLEncoding.EncodeToString(append(bytes.Clone(raw[:i]), raw[i+1:]...)))
		}
		for _, text := range []string{token + "A", token + "=", token + "==", token + "AA", token + "AAA", token + "AAAA", token + token, " " + token, token + "\n", base64.URLEncoding.EncodeToString(raw), strings.ToUpper(token), strings.Repeat("A", 43), strings.Repeat("A", 44), strings.Repeat("A", 100000)} {
			if text != token {
				a.faulty(text)
			}
		}
	})
	a.check(token, 14, "@a:home", api.OK)
}

func TestTokensByHand(t *testing.T) { // K3, K7: though their sums be right
	a := asker{t, newKeeper(t, noughts, 10, 2, 3)}
	a.issue("@a", 5, byHand(noughts, "@a", 15, 1), api.OK)
	a.issue("@b", 5, byHand(noughts, "@b", 15, 2), api.OK)
	a.refused("what was never given", func() {
		for _, n := range []int64{0, 3, -1, 2, 1000000000, 1<<32 + 1, math.MinInt64, math.MaxInt64} {
			a.check(byHand(noughts, "@a", 15, n), 0, "", api.ErrRevoked)
			a.revoke(byHand(noughts, "@a", 15, n), 0, api.ErrRevoked)
		}
		for _, until := range []int64{16, 14 + 1<<32, 15 + 1<<32, math.MaxInt64} {
			a.check(byHand(noughts, "@a", until, 1), 0, "", api.ErrRevoked)
			a.check(byHand(noughts, "@a", until, 1), 15, "", api.ErrRevoked)
		}
		for _, until := range []int64{5, 0, 4, -1, -15, math.MinInt64, -1 << 32} {
			a.check(byHand(noughts, "@a", until, 1), 0, "", api.ErrExpired)
			a.revoke(byHand(noughts, "@a", until, 9), 0, api.ErrExpired)
		}
		a.check(byHand(noughts, "@a", 14, 1), 0, "", api.ErrRevoked)
		for _, user := range []string{"@b", "@A", "a", "@", "@a ", "@a\x00", strings.Repeat("u", 60)} {
			a.check(byHand(noughts, user, 15, 1), 0, "", api.ErrRevoked)
			a.check(byHand(noughts, user, 15, 1), 15, "", api.ErrExpired)
			a.revoke(byHand(noughts, user, 15, 1), 0, api.ErrRevoked)
		}
		for _, user := range wrongUsers {
			a.faulty(byHand(noughts, user, 15, 1))
			a.faulty(byHand(noughts, user, 0, 1))
		}
		for _, key := range [][]byte{otherKey, append(make([]byte, 16), 1), []byte(strings.Repeat("\x00", 15) + "\x01")} {
			a.faulty(byHand(key, "@a", 15, 1))
		}
	})
	a.check(byHand(noughts, "@a", 15, 1), 14, "@a", api.OK) // whoever made it, it is the text that was given
	a.revoke(byHand(noughts, "@a", 15, 1), 14, api.OK)
}

func TestWrongBytesUnderTheRightKey(t *testing.T) { // K3: what is ahead of the sum is not, whole, a text and two numbers
	a := asker{t, newKeeper(t, noughts, 10, 2, 3)}
	a.issue("@a", 5, byHand(noughts, "@a", 15, 1), api.OK)
	good := text("@a") + number(15) + number(1)
	a.refused("what is no token", func() {
		for i := range len(good) {
			a.faulty(signed(noughts, good[:i]))
		}
		for _, behind := range []string{"\x00", "\x01", number(1), text("@a"), good, "\x80"} {
			a.faulty(signed(noughts, good+behind))
			a.faulty(signed(noughts, behind+good))
		}
		for _, head := range []string{
			text("@a") + "\x9e\x00" + number(1),        // a byte more than 15 needs
			text("@a") + number(15) + "\x82\x00",       // than 1
			"\x82\x00@a" + number(15) + number(1),      // than the text's length
			"\x03@a" + number(15) + number(1),          // a text that takes the number's byte
			"\x40@a" + number(15) + number(1),          // a text that is not there
			"\xff\xff\xff\xff\xff\xff\xff\xff\xff\x01", // a text of 2^64 - 1 bytes
			text("@a") + "\xff\xff\xff\xff\xff\xff\xff\xff\xff\x02" + number(1),
			text("@a") + number(15) + "\xff\xff\xff\xff\xff\xff\xff\xff\xff",
			number(15) + number(1) + text("@a"),
		} {
			a.faulty(signed(noughts, head))
		}
		a.faulty(signed(noughts, "")) // 32 bytes, all of them a sum
		a.faulty(base64.RawURLEncoding.EncodeToString(make([]byte, 31)))
		a.faulty(base64.RawURLEncoding.EncodeToString([]byte(good)))
	})
}

func TestOrderOfErrors(t *testing.T) { // K3, K4: ErrArg, ErrToken, ErrExpired, ErrRevoked
	a := asker{t, newKeeper(t, noughts, 10, 2, 3)}
	token := byHand(noughts, "@a", 10, 1)
	a.issue("@a", 0, token, api.OK)
	a.revoke(token, 3, api.OK)
	bad := token[:len(token)-1]
	a.refused("each", func() {
		for _, c := range []struct {
			token string
			now   int
			want  api.Errno
		}{
			{bad, -1, api.ErrArg}, {bad, 1000000001, api.ErrArg}, {token, -1, api.ErrArg}, {token, 1000000001, api.ErrArg}, {"", math.MinInt, api.ErrArg},
			{bad, 10, api.ErrToken}, {bad, 0, api.ErrToken}, {byHand(otherKey, "@a", 1, 1), 10, api.ErrToken}, {byHand(noughts, "", 1, 1), 10, api.ErrToken},
			{token, 10, api.ErrExpired}, {token, 11, api.ErrExpired}, {byHand(noughts, "@a", 3, 7), 0, api.ErrExpired}, {byHand(noughts, "@x", 10, 7), 10, api.ErrExpired},
			{token, 0, api.ErrRevoked}, {token, 9, api.ErrRevoked}, {byHand(noughts, "@x", 10, 7), 9, api.ErrRevoked},
		} {
			a.check(c.token, c.now, "", c.want)
			a.revoke(c.token, c.now, c.want)
		}
	})
	a.latest(3)
}

func TestRevoke(t *testing.T) { // K4: one by one; the others stay
	a := asker{t, newKeeper(t, noughts, 10, 2, 3)}
	var tokens []string
	for i := range 6 {
		tokens = append(tokens, byHand(noughts, []string{"@a", "@b"}[i%2], 10, int64(i+1)))
		a.issue([]string{"@a", "@b"}[i%2], 0, tokens[i], api.OK)
	}
	for _, gone := range [][]int{{3}, {3, 0}, {3, 0, 5}, {3, 0, 5, 4}} {
		a.revoke(tokens[gone[len(gone)-1]], 0, api.OK)
		for i, token := range tokens {
			if slices.Contains(gone, i) {
				a.check(token, 0, "", api.ErrRevoked)
				a.revoke(token, 0, api.ErrRevoked)
			} else {
				a.check(token, 0, []string{"@a", "@b"}[i%2], api.OK)
			}
		}
	}
	a.issue("@a", 0, byHand(noughts, "@a", 10, 7), api.OK) // a number that is taken back does not come again
	a.check(tokens[0], 0, "", api.ErrRevoked)
	a.revokeAll("@a", 0, 2)
	a.revokeAll("@b", 0, 1)
}

func TestRevokeAll(t *testing.T) { // K4: how many of these are live
	a := asker{t, newKeeper(t, noughts, 10, 2, 3)}
	n := int64(0)
	issue := func(user string, now int) string {
		n++
		token := byHand(noughts, user, int64(now+10), n)
		a.issue(user, now, token, api.OK)
		return token
	}
	first, second, third, other := issue("@a", 0), issue("@a", 3), issue("@a", 5), issue("@ab", 5)
	a.revokeAll("@", 5, 0)
	a.revokeAll("@b", 5, 0)
	a.revokeAll("", 5, 0)
	a.revoke(second, 5, api.OK)
	a.revokeAll("@a", 9, 2) // without the one that was taken back
	a.revokeAll("@a", 9, 0)
	for _, token := range []string{first, second, third} {
		a.check(token, 9, "", api.ErrRevoked)
	}
	a.check(other, 9, "@ab", api.OK)
	issue("@a", 10)
	issue("@a", 12)
	issue("@a", 12)
	a.refused("a RevokeAll at a wrong time", func() {
		for _, now := range wrongTimes {
			a.revokeAll("@a", now, 0)
		}
	})
	a.revokeAll("@a", 20, 2) // the first is over just then
	a.revokeAll("@ab", 20, 0)
	last := issue("@a", 20)
	a.check(last, 29, "@a", api.OK)
	a.revokeAll("@a", 30, 0)
	a.revokeAll("@a", 0, 0)
	a.check(last, 0, "", api.ErrExpired)
	for _, user := range wrongUsers {
		a.revokeAll(user, 30, 0)
	}
}

func TestRevokeAllOfMany(t *testing.T) { // K4
	a := asker{t, newKeeper(t, noughts, 1000, 2, 3)}
	for i := range 900 {
		a.keeper.Issue(fmt.Sprint("@", i%3), i/3)
	}
	a.revokeAll("@1", 1099, 200)
	a.revokeAll("@0", 1100, 199)
	a.revokeAll("@2", 1298, 1)
	a.revokeAll("@2", 1299, 0)
}

func TestAllow(t *testing.T) { // K5
	a := asker{t, newKeeper(t, noughts, 10, 3, 5)}
	for _, user := range rightUsers { // each user has a due of their own
		a.allow(user, 7, true, 0)
		a.allow(user, 7, true, 0)
		a.allow(user, 7, true, 0)
		a.allow(user, 7, false, 5)
	}
	a.allow("@a", 0, false, 5) // the time never goes back
	a.allow("@a", 11, false, 1)
	a.allow("@a", 12, true, 0)
	a.allow("@a", 12, false, 5)
	a.allow("@a", 16, false, 1)
	a.allow("@a", 22, true, 0) // what was not asked for at 17 is not lost
	a.allow("@a", 22, true, 0)
	a.allow("@a", 22, false, 5)
	a.refused("a wrong Allow", func() {
		for _, user := range wrongUsers {
			for _, now := range append(wrongTimes, 22, 500, 1000000000) {
				a.allow(user, now, false, 0)
			}
		}
		for _, now := range wrongTimes {
			a.allow("@a", now, false, 0)
		}
	})
	a.allow("@a", 1000000000, true, 0)
	a.allow("@a", 1000000000, true, 0)
	a.allow("@a", 5, true, 0)
	a.allow("@a", 1000000000, false, 5)
}

func TestAllowAtTheBounds(t *testing.T) { // K1, K5: bursts of 1 and MaxBurst, rates of 1 and MaxLife
	for _, burst := range []int{1, 2, 99, 100} {
		for _, rate := range []int{1, 2, 999999, 1000000} {
			a := asker{t, newKeeper(t, noughts, 10, burst, rate)}
			for _, now := range []int{0, 1000000000 - 200000000} {
				for range burst {
					a.allow("@a", now, true, 0)
				}
				a.allow("@a", now, false, rate)
				if rate > 1 {
					a.allow("@a", now+1, false, rate-1)
				}
				a.allow("@a", now+rate-1, false, 1)
				a.allow("@a", now+rate, true, 0)
				a.allow("@a", now+rate, false, rate)
			}
		}
	}
}
