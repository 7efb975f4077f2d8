package session

import (
	"crypto/hmac"
	"crypto/sha256"
	"encoding/base64"
	"encoding/binary"
	"slices"
	"strings"
	"testing"

	"tocsin/api"
	"tocsin/wire"
)

var (
	noughts  = make([]byte, 16)
	otherKey = []byte("another key of mine")
)

// A slip is a text that may be a token: what it says, if it is sound (its form, its user and its sum are right).
type slip struct {
	text          string
	sound         bool
	user          string
	until, number int
}

// A gift is a token that a model gave.
type gift struct {
	user          string
	until, number int
	back          bool
}

// A model keeps all tokens that were ever given and all dues, and looks through them whenever it is asked.
type model struct {
	key               []byte
	life, burst, rate int
	latest            int
	gifts             []gift
	dues              map[string]int
}

func newModel(key []byte, life, burst, rate int) *model {
	return &model{key: key, life: life, burst: burst, rate: rate, dues: map[string]int{}}
}

func timely(now int) bool { return 0 <= now && now <= 1000000000 }

func named(user string) bool { return 1 <= len(user) && len(user) <= 60 }

func (m *model) issue(user string, now int) (string, api.Errno) {
	if !named(user) || !timely(now) {
		return "", api.ErrArg
	}
	m.latest = max(m.latest, now)
	g := gift{user: user, until: m.latest + m.life, number: len(m.gifts) + 1}
	m.gifts = append(m.gifts, g)
	return byHand(m.key, g.user, int64(g.until), int64(g.number)), api.OK
}

// find is the place of a slip's token among the gifts.
func (m *model) find(s slip, now int) (int, api.Errno) {
	if !timely(now) {
		return 0, api.ErrArg
	}
	if !s.sound {
		return 0, api.ErrToken
	}
	if s.until <= max(m.latest, now) {
		return 0, api.ErrExpired
	}
	i := slices.Index(m.gifts, gift{s.user, s.until, s.number, false})
	if i < 0 {
		return 0, api.ErrRevoked
	}
	return i, api.OK
}

func (m *model) check(s slip, now int) (string, api.Errno) {
	i, errno := m.find(s, now)
	if errno != api.OK {
		return "", errno
	}
	m.latest = max(m.latest, now)
	return m.gifts[i].user, api.OK
}

func (m *model) revoke(s slip, now int) api.Errno {
	i, errno := m.find(s, now)
	if errno != api.OK {
		return errno
	}
	m.latest = max(m.latest, now)
	m.gifts[i].back = true
	return api.OK
}

func (m *model) revokeAll(user string, now int) int {
	if !timely(now) {
		return 0
	}
	m.latest = max(m.latest, now)
	many := 0
	for i, g := range m.gifts {
		if g.user == user && !g.back && g.until > m.latest {
			m.gifts[i].back = true
			many++
		}
	}
	return many
}

func (m *model) allow(user string, now int) (bool, int) {
	if !named(user) || !timely(now) {
		return false, 0
	}
	m.latest = max(m.latest, now)
	d, b := m.dues[user], (m.burst-1)*m.rate
	if d > m.latest+b {
		return false, d - b - m.latest
	}
	m.dues[user] = max(d, m.latest) + m.rate
	return true, 0
}

func (m *model) save() string {
	var tokens, dues []string
	for _, g := range m.gifts {
		if !g.back && g.until > m.latest {
			tokens = append(tokens, saidToken(int64(g.number), g.user, int64(g.until)))
		}
	}
	var users []string
	for user, due := range m.dues {
		if due > m.latest {
			users = append(users, user)
		}
	}
	slices.Sort(users)
	for _, user := range users {
		dues = append(dues, saidDue(user, int64(m.dues[user])))
	}
	return said(m.life, m.burst, m.rate, m.latest, len(m.gifts)) + counted(tokens...) + counted(dues...)
}

// number, text and counted are a number, a text and a list as they are written, by the library's means.
func number(n int64) string { return string(binary.AppendVarint(nil, n)) }

func text(s string) string { return string(binary.AppendUvarint(nil, uint64(len(s)))) + s }

func counted(things ...string) string {
	return string(binary.AppendUvarint(nil, uint64(len(things)))) + strings.Join(things, "")
}

// said are numbers, saidToken and saidDue a token and a due as they are saved.
func said(numbers ...int) string {
	var b strings.Builder
	for _, n := range numbers {
		b.WriteString(number(int64(n)))
	}
	return b.String()
}

func saidToken(n int64, user string, until int64) string {
	return number(n) + text(user) + number(until)
}

func saidDue(user string, due int64) string { return text(user) + number(due) }

// signed is the text of bytes and their sum, by the library's means.
func signed(key []byte, bytes string) string {
	h := hmac.New(sha256.New, key)
	h.Write([]byte(bytes))
	return base64.RawURLEncoding.EncodeToString(h.Sum([]byte(bytes)))
}

// byHand is the text of a token that nobody has to have given.
func byHand(key []byte, user string, until, n int64) string {
	return signed(key, text(user)+number(until)+number(n))
}

// handSlip is such a text with what it says.
func handSlip(key []byte, user string, until, n int) slip {
	return slip{byHand(key, user, int64(until), int64(n)), named(user), user, until, n}
}

func newKeeper(t testing.TB, key []byte, life, burst, rate int) *Keeper {
	t.Helper()
	k, errno := New(key, life, burst, rate)
	if k == nil || errno != api.OK {
		t.Fatalf("K1: New of a key of %d bytes, %d, %d, %d: %v, %d; want a keeper, OK", len(key), life, burst, rate, k != nil, errno)
	}
	return k
}

func saved(k *Keeper) string {
	w := wire.NewWriter()
	k.Save(w)
	return string(w.Bytes())
}
