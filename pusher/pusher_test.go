package pusher

import (
	"fmt"
	"math"
	"slices"
	"strings"
	"testing"

	"tocsin/api"
	"tocsin/jsonval"
	"tocsin/wire"
)

// What is exported stays as it was given.
var (
	_ func() *Post                                          = New
	_ func(*Post, string, string, string) api.Errno         = (*Post).Set
	_ func(*Post, string, string) api.Errno                 = (*Post).Remove
	_ func(*Post, string, *jsonval.Value, api.Actions, int) = (*Post).Push
	_ func(*Post, int) []api.Attempt                        = (*Post).Tick
	_ func(*Post, int, string, int) api.Errno               = (*Post).Reply
	_ func(*Post, string) *jsonval.Value                    = (*Post).Print
	_ func(*Post, *wire.Writer)                             = (*Post).Save
	_ func(*wire.Reader) (*Post, api.Errno)                 = Load
)

// value reads a value; it must be one.
func value(s string) *jsonval.Value {
	v, err := jsonval.Parse([]byte(s))
	if err != nil {
		panic(s)
	}
	return v
}

func saved(p *Post) string {
	w := wire.NewWriter()
	p.Save(w)
	return string(w.Bytes())
}

// An asker calls a post, and wants answers.
type asker struct {
	testing.TB
	post *Post
}

// is wants this error, and that a call that was refused has changed nothing.
func (a asker) is(what string, errno, want api.Errno, before string) {
	a.Helper()
	if errno != want {
		a.Errorf("%s: %d, want %d", what, errno, want)
	}
	if errno != api.OK && saved(a.post) != before {
		a.Errorf("P2: %s is refused, and changes %q to %q", what, before, saved(a.post))
	}
}

func (a asker) set(user, key, format string, want api.Errno) {
	a.Helper()
	before := saved(a.post)
	a.is(fmt.Sprintf("U2: Set(%q, %q, %q)", user, key, format), a.post.Set(user, key, format), want, before)
}

func (a asker) remove(user, key string, want api.Errno) {
	a.Helper()
	before := saved(a.post)
	a.is(fmt.Sprintf("U2: Remove(%q, %q)", user, key), a.post.Remove(user, key), want, before)
}

// push hands on a plain event, with a number by which its notes are known.
func (a asker) push(user string, unread int) {
	a.post.Push(user, plain(), api.Actions{Notify: true}, unread)
}

func (a asker) tick(now int, want ...api.Attempt) {
	a.Helper()
	if got := a.post.Tick(now); !slices.Equal(got, want) {
		a.Errorf("U4: Tick(%d) = %+v, want %+v", now, got, want)
	}
}

func (a asker) reply(attempt int, result string, now int, want api.Errno) {
	a.Helper()
	before := saved(a.post)
	a.is(fmt.Sprintf("U5: Reply(%d, %q, %d)", attempt, result, now), a.post.Reply(attempt, result, now), want, before)
}

// prints wants that all pushers of a user are told so, with ' for ".
func (a asker) prints(user string, want ...string) {
	a.Helper()
	before := saved(a.post)
	v := a.post.Print(user)
	if got := v.Print(); got != strings.ReplaceAll("["+strings.Join(want, ",")+"]", "'", "\"") {
		a.Errorf("U6: Print(%q) = %s, want %s", user, got, want)
	}
	if v == nil || saved(a.post) != before {
		a.Errorf("U6: Print(%q) gives nil, or changes something", user)
	}
}

func plain() *jsonval.Value { return value(`{"event_id":"$1","room_id":"!r"}`) }

// row is what Print tells of a pusher.
func row(key, format string, waits, failures, until, dropped, attempt int) string {
	return fmt.Sprintf("{'attempt':%d,'dropped':%d,'failures':%d,'format':'%s','key':'%s','until':%d,'waits':%d}", attempt, dropped, failures, format, key, until, waits)
}

// try is an attempt at a plain note of the format event_id_only.
func try(id int, user, key string, unread int) api.Attempt {
	return api.Attempt{ID: id, User: user, Key: key, Payload: told("event_id_only", plain(), api.Actions{}, unread)}
}

func TestExample(t *testing.T) {
	a := asker{t, New()}
	a.set("@a:home", "k", "full", api.OK)
	a.post.Push("@a:home", plain(), api.Actions{Highlight: true}, 3)
	payload := `{"counts":{"unread":3},"event":{"event_id":"$1","room_id":"!r"},"tweaks":{"highlight":true}}`
	a.tick(0, api.Attempt{ID: 1, User: "@a:home", Key: "k", Payload: payload})
	a.tick(100)
	a.reply(1, "fail", 100, api.OK)
	a.tick(101)
	a.tick(102, api.Attempt{ID: 2, User: "@a:home", Key: "k", Payload: payload})
	a.reply(1, "ok", 102, api.ErrAttempt)
	a.reply(2, "rejected", 102, api.OK)
	a.prints("@a:home")
	a.remove("@a:home", "k", api.ErrNoPusher)
	a.set("@a:home", "k", "event_id_only", api.OK)
	a.post.Push("@a:home", plain(), api.Actions{Highlight: true}, 3)
	a.tick(0, api.Attempt{ID: 3, User: "@a:home", Key: "k", Payload: `{"counts":{"unread":3},"event_id":"$1","room_id":"!r"}`})
}

func TestNew(t *testing.T) {
	a := asker{t, New()}
	if got := saved(a.post); got != "\x02\x00" {
		t.Errorf("U1: a new post is saved as %q", got)
	}
	for _, user := range []string{"", "@a"} {
		a.prints(user)
		a.remove(user, "k", api.ErrNoPusher)
		a.push(user, 1)
	}
	for _, now := range []int{math.MinInt, 0, math.MaxInt} {
		a.tick(now)
	}
	a.reply(0, "ok", 0, api.ErrAttempt)
	a.reply(1, "ok", 0, api.ErrAttempt)
	if got := saved(a.post); got != "\x02\x00" {
		t.Errorf("U1: what finds no pusher changes it to %q", got)
	}
}

func TestSetBounds(t *testing.T) {
	t.Parallel()
	sixty := strings.Repeat("k", 60)
	for _, user := range []string{"", "@a:home", "no name", "\xff\x00", sixty, strings.Repeat("é", 30)} {
		for _, key := range []string{"k", "!", "~", "\"", "\\", sixty, "!~!~"} {
			for _, format := range []string{"full", "event_id_only"} {
				a := asker{t, New()}
				a.set(user, key, format, api.OK)
				if got := a.post.Print(user).Item(0); got.Get("key").Text() != key || got.Get("format").Text() != format || got.Get("waits").Number() != 0 {
					t.Errorf("U2, U6: Set(%q, %q, %q) is printed as %s", user, key, format, got.Print())
				}
			}
		}
	}
	a := asker{t, New()}
	a.set("@a", "k", "full", api.OK)
	for _, user := range []string{sixty + "k", strings.Repeat("é", 30) + "e", strings.Repeat("x", 1000)} {
		a.set(user, "k", "full", api.ErrPusher)
	}
	for _, key := range []string{"", sixty + "k", " ", "\x20k", "k\x20", "k\x00", "\n", "\x7f", "k\x7fk", "\x80", "k\xff", "é", "k\ufffd", strings.Repeat("k", 1000)} {
		a.set("@a", key, "full", api.ErrPusher)
		a.remove("@a", key, api.ErrNoPusher)
	}
	for _, format := range []string{"", "Full", "full ", "event_id", "event_id_only\x00", "FULL", "ful", "event_id_onlyx", "true"} {
		a.set("@a", "l", format, api.ErrPusher)
		a.set("@a", "k", format, api.ErrPusher)
	}
	a.prints("@a", row("k", "full", 0, 0, 0, 0, 0))
}

func TestEveryByteOfAKey(t *testing.T) {
	t.Parallel()
	for b := range 256 {
		want := api.OK
		if b < 33 || b > 126 {
			want = api.ErrPusher
		}
		for _, key := range []string{string([]byte{byte(b)}), "k" + string([]byte{byte(b)}), string([]byte{byte(b), 'k'})} {
			asker{t, New()}.set("@a", key, "full", want)
		}
	}
}

func TestFifthPusher(t *testing.T) {
	t.Parallel()
	a := asker{t, New()}
	for i, key := range []string{"c", "a", "d", "b"} {
		a.set("@a", key, "full", api.OK)
		a.set("@b", key, "full", api.OK)
		a.set("@a", key, "event_id_only", api.OK) // there is no more of them by that
		if got := a.post.Print("@a").Len(); got != i+1 {
			t.Errorf("U2: %d pushers, want %d", got, i+1)
		}
	}
	a.set("@a", "e", "full", api.ErrMany)
	a.set("@a", "0", "full", api.ErrMany)
	a.set("@a", "e", "none", api.ErrPusher) // the fault that is named first
	a.set("@a", "", "full", api.ErrPusher)
	a.set("@b", "e", "full", api.ErrMany)
	a.set("@aa", "e", "full", api.OK)
	a.set("@", "e", "full", api.OK)
	a.set("@a", "d", "full", api.OK)
	a.prints("@a", row("a", "event_id_only", 0, 0, 0, 0, 0), row("b", "event_id_only", 0, 0, 0, 0, 0), row("c", "event_id_only", 0, 0, 0, 0, 0), row("d", "full", 0, 0, 0, 0, 0))
	a.remove("@a", "b", api.OK)
	a.set("@a", "e", "full", api.OK)
	a.set("@a", "b", "full", api.ErrMany)
	// A rejection makes place, too.
	a.push("@a", 1)
	first := a.post.Tick(0)[0]
	a.reply(first.ID, "rejected", 0, api.OK)
	a.set("@a", "b", "full", api.OK)
	a.set("@a", "f", "full", api.ErrMany)
}

func TestSetAgain(t *testing.T) {
	t.Parallel()
	a := asker{t, New()}
	a.set("@a", "k", "full", api.OK)
	full := func(n int) string { return told("full", plain(), api.Actions{}, n) }
	for n := range 9 {
		a.push("@a", n)
	}
	a.tick(0, api.Attempt{ID: 1, User: "@a", Key: "k", Payload: full(1)})
	a.reply(1, "fail", 10, api.OK)
	a.tick(12, api.Attempt{ID: 2, User: "@a", Key: "k", Payload: full(1)})
	a.set("@a", "k", "event_id_only", api.OK)
	a.prints("@a", row("k", "event_id_only", 8, 1, 12, 1, 2))
	a.push("@a", 9) // note 1 is dropped, with its attempt
	a.prints("@a", row("k", "event_id_only", 8, 1, 12, 2, 0))
	a.tick(11)
	a.tick(12, api.Attempt{ID: 3, User: "@a", Key: "k", Payload: full(2)})
	a.set("@a", "k", "full", api.OK)
	a.reply(3, "ok", 0, api.OK)
	a.push("@a", 10)
	id := 4
	for n := 3; n <= 8; n++ {
		a.tick(0, api.Attempt{ID: id, User: "@a", Key: "k", Payload: full(n)})
		a.reply(id, "ok", 0, api.OK)
		id++
	}
	a.tick(0, try(id, "@a", "k", 9))
	a.reply(id, "ok", 0, api.OK)
	a.tick(0, api.Attempt{ID: id + 1, User: "@a", Key: "k", Payload: full(10)})
	a.set("@a", "k", "full", api.OK) // the same once more
	a.prints("@a", row("k", "full", 1, 0, 0, 2, id+1))
}

func TestRemove(t *testing.T) {
	t.Parallel()
	a := asker{t, New()}
	for _, key := range []string{"k", "l"} {
		a.set("@a", key, "event_id_only", api.OK)
	}
	a.set("@b", "k", "event_id_only", api.OK)
	for n := range 3 {
		a.push("@a", n)
		a.push("@b", n)
	}
	a.tick(0, try(1, "@a", "k", 0), try(2, "@a", "l", 0), try(3, "@b", "k", 0))
	a.remove("@a", "m", api.ErrNoPusher)
	a.remove("@", "k", api.ErrNoPusher)
	a.remove("@c", "k", api.ErrNoPusher)
	a.remove("k", "@a", api.ErrNoPusher)
	a.remove("@a", "k", api.OK)
	a.remove("@a", "k", api.ErrNoPusher)
	for _, result := range []string{"ok", "fail", "rejected"} {
		a.reply(1, result, 0, api.ErrAttempt)
	}
	a.prints("@a", row("l", "event_id_only", 3, 0, 0, 0, 2))
	// Set anew, it knows nothing of what it was; numbers go on.
	a.set("@a", "k", "full", api.OK)
	a.prints("@a", row("k", "full", 0, 0, 0, 0, 0), row("l", "event_id_only", 3, 0, 0, 0, 2))
	a.tick(math.MaxInt)
	a.set("@a", "k", "event_id_only", api.OK)
	a.push("@a", 7)
	a.tick(0, try(4, "@a", "k", 7))
	a.reply(2, "ok", 0, api.OK)
	a.reply(3, "rejected", 0, api.OK)
	a.tick(0, try(5, "@a", "l", 1))
	a.remove("@b", "k", api.ErrNoPusher)
}

func TestPayloads(t *testing.T) {
	t.Parallel()
	loud := api.Actions{Notify: true, Highlight: true, Sound: "ring"}
	for _, c := range []struct {
		event  string
		a      api.Actions
		unread int
		full   string
		only   string
	}{
		{`{"room_id":"!r","event_id":"$1"}`, api.Actions{}, 1, `{"counts":{"unread":1},"event":{"event_id":"$1","room_id":"!r"},"tweaks":{}}`, `{"counts":{"unread":1},"event_id":"$1","room_id":"!r"}`},
		{`{"event_id":"$1","room_id":"!r"}`, api.Actions{Notify: true}, 0, `{"counts":{"unread":0},"event":{"event_id":"$1","room_id":"!r"},"tweaks":{}}`, `{"counts":{"unread":0},"event_id":"$1","room_id":"!r"}`},
		{`{"event_id":"$1","room_id":"!r"}`, loud, 99, `{"counts":{"unread":99},"event":{"event_id":"$1","room_id":"!r"},"tweaks":{"highlight":true,"sound":"ring"}}`, `{"counts":{"unread":99},"event_id":"$1","room_id":"!r"}`},
		{`{"event_id":"$1"}`, api.Actions{Highlight: true}, -1, `{"counts":{"unread":-1},"event":{"event_id":"$1"},"tweaks":{"highlight":true}}`, `{"counts":{"unread":-1},"event_id":"$1","room_id":""}`},
		{`{"room_id":"!r"}`, api.Actions{Sound: "a\"b\n\x01é"}, 2, `{"counts":{"unread":2},"event":{"room_id":"!r"},"tweaks":{"sound":"a\"b\n\u0001é"}}`, `{"counts":{"unread":2},"event_id":"","room_id":"!r"}`},
		{`{"event_id":1,"room_id":null}`, api.Actions{}, 2, `{"counts":{"unread":2},"event":{"event_id":1,"room_id":null},"tweaks":{}}`, `{"counts":{"unread":2},"event_id":"","room_id":""}`},
		{`{"event_id":["$1"],"room_id":{"room_id":"!r"}}`, api.Actions{}, 2, `{"counts":{"unread":2},"event":{"event_id":["$1"],"room_id":{"room_id":"!r"}},"tweaks":{}}`, `{"counts":{"unread":2},"event_id":"","room_id":""}`},
		{`{"event_id":true,"room_id":""}`, api.Actions{}, 2, `{"counts":{"unread":2},"event":{"event_id":true,"room_id":""},"tweaks":{}}`, `{"counts":{"unread":2},"event_id":"","room_id":""}`},
		{`{"event_id":"\u00e9\t","room_id":"\"\\"}`, api.Actions{}, 2, `{"counts":{"unread":2},"event":{"event_id":"é\t","room_id":"\"\\"},"tweaks":{}}`, `{"counts":{"unread":2},"event_id":"é\t","room_id":"\"\\"}`},
		{`["event_id","$1"]`, api.Actions{}, 2, `{"counts":{"unread":2},"event":["event_id","$1"],"tweaks":{}}`, `{"counts":{"unread":2},"event_id":"","room_id":""}`},
		{`"$1"`, api.Actions{}, math.MaxInt, `{"counts":{"unread":9007199254740991},"event":"$1","tweaks":{}}`, `{"counts":{"unread":9007199254740991},"event_id":"","room_id":""}`},
		{`null`, api.Actions{Sound: "\xff"}, math.MinInt, `{"counts":{"unread":-9007199254740991},"event":null,"tweaks":{"sound":"` + "\ufffd" + `"}}`, `{"counts":{"unread":-9007199254740991},"event_id":"","room_id":""}`},
	} {
		a := asker{t, New()}
		a.set("@a", "f", "full", api.OK)
		a.set("@a", "i", "event_id_only", api.OK)
		a.post.Push("@a", value(c.event), c.a, c.unread)
		a.tick(0, api.Attempt{ID: 1, User: "@a", Key: "f", Payload: c.full}, api.Attempt{ID: 2, User: "@a", Key: "i", Payload: c.only})
	}
	a := asker{t, New()} // nil is null (P1)
	a.set("", "f", "full", api.OK)
	a.set("", "i", "event_id_only", api.OK)
	a.post.Push("", nil, api.Actions{}, 0)
	a.tick(0, api.Attempt{ID: 1, Key: "f", Payload: `{"counts":{"unread":0},"event":null,"tweaks":{}}`}, api.Attempt{ID: 2, Key: "i", Payload: `{"counts":{"unread":0},"event_id":"","room_id":""}`})
}

func TestPushOfTheGreatestEvent(t *testing.T) {
	t.Parallel()
	long := `{"event_id":"$1","x":"` + strings.Repeat("x", api.MaxJSON-24) + `"}`
	deep := strings.Repeat("[", 10) + strings.Repeat("]", 10)
	for _, event := range []string{long, deep} {
		a := asker{t, New()}
		a.set("@a", "k", "full", api.OK)
		a.post.Push("@a", value(event), api.Actions{}, 0)
		a.tick(0, api.Attempt{ID: 1, User: "@a", Key: "k", Payload: `{"counts":{"unread":0},"event":` + event + `,"tweaks":{}}`})
		loaded(t, saved(a.post))
	}
}

func TestPushGoesToOneUser(t *testing.T) {
	t.Parallel()
	a := asker{t, New()}
	for _, user := range []string{"@b", "@a", "@ab", ""} {
		a.set(user, "k", "event_id_only", api.OK)
	}
	a.set("@a", "l", "event_id_only", api.OK)
	for i, user := range []string{"@a", "@", "@abc", "@c", "\x00"} {
		a.push(user, i)
	}
	a.tick(0, try(1, "@a", "k", 0), try(2, "@a", "l", 0))
	a.push("", 8)
	a.push("@ab", 9)
	a.tick(0, try(3, "", "k", 8), try(4, "@ab", "k", 9))
	a.prints("@b", row("k", "event_id_only", 0, 0, 0, 0, 0))
}

func TestFullQueue(t *testing.T) {
	t.Parallel()
	a := asker{t, New()}
	a.set("@a", "k", "event_id_only", api.OK)
	for n := range 8 {
		a.push("@a", n)
		a.prints("@a", row("k", "event_id_only", n+1, 0, 0, 0, 0))
	}
	a.push("@a", 8) // not tried
	a.prints("@a", row("k", "event_id_only", 8, 0, 0, 1, 0))
	a.tick(0, try(1, "@a", "k", 1))
	a.set("@a", "l", "event_id_only", api.OK) // an empty one beside it
	a.push("@a", 9)                           // tried
	a.prints("@a", row("k", "event_id_only", 8, 0, 0, 2, 0), row("l", "event_id_only", 1, 0, 0, 0, 0))
	for _, result := range []string{"ok", "fail", "rejected"} {
		a.reply(1, result, 0, api.ErrAttempt)
	}
	a.tick(0, try(2, "@a", "k", 2), try(3, "@a", "l", 9))
	a.reply(2, "fail", 50, api.OK)
	a.push("@a", 10) // it failed, and is not tried: failures and until stay
	a.prints("@a", row("k", "event_id_only", 8, 1, 52, 3, 0), row("l", "event_id_only", 2, 0, 0, 0, 3))
	a.tick(51)
	a.tick(52, try(4, "@a", "k", 3))
	a.reply(4, "fail", 52, api.OK)
	a.tick(55)
	a.tick(56, try(5, "@a", "k", 3))
	a.push("@a", 11)
	a.prints("@a", row("k", "event_id_only", 8, 2, 56, 4, 0), row("l", "event_id_only", 3, 0, 0, 0, 3))
	a.reply(3, "ok", 0, api.OK) // of another pusher, which was not full
}

func TestDroppedIsCountedUpToMaxTime(t *testing.T) {
	t.Parallel()
	eight := []string{"1", "2", "3", "4", "5", "6", "7", "8"}
	a := asker{t, loaded(t, saidNumber(1)+counted(saidPusher("@a", "k", false, eight, 1000000000, 0, 999999999, 0)))}
	for n := range 3 {
		a.push("@a", n)
		a.prints("@a", row("k", "event_id_only", 8, 1000000000, 0, 1000000000, 0))
	}
	a.tick(0, api.Attempt{ID: 1, User: "@a", Key: "k", Payload: "4"})
	a.reply(1, "fail", 1000000000, api.OK)
	a.prints("@a", row("k", "event_id_only", 8, 1000000000, 1000000060, 1000000000, 0))
	a.tick(1000000059)
	a.tick(1000000060, api.Attempt{ID: 2, User: "@a", Key: "k", Payload: "4"})
}

func TestTickInOrder(t *testing.T) {
	t.Parallel()
	users := []string{"", "\x00", " ", "@a", "@a\x00", "@a ", "@aa", "@b", "A", "a", "\x7f", "\x80", "é", "\xff"}
	keys := []string{"!", "K", "k", "kk"}
	a := asker{t, New()}
	for i := range users { // by no order
		for j := range keys {
			a.set(users[(i*5+3)%len(users)], keys[(j*3+i)%len(keys)], "event_id_only", api.OK)
		}
	}
	for _, user := range users {
		a.push(user, 1)
	}
	var want []api.Attempt
	for _, user := range users {
		for _, key := range keys {
			want = append(want, try(len(want)+1, user, key, 1))
		}
	}
	slices.SortStableFunc(want, func(x, y api.Attempt) int { // as the document says: byte by byte, a beginning first
		if ahead(x.User, y.User) {
			return -1
		} else if ahead(y.User, x.User) {
			return 1
		}
		return 0
	})
	for i := range want {
		want[i].ID = i + 1
	}
	a.tick(0, want...)
	a.tick(0)
	for i := len(want); i > 0; i-- {
		a.reply(i, "ok", 0, api.OK)
	}
	a.push("@b", 2)
	a.push("", 3)
	n := len(want)
	a.tick(0, try(n+1, "", "!", 3), try(n+2, "", "K", 3), try(n+3, "", "k", 3), try(n+4, "", "kk", 3), try(n+5, "@b", "!", 2), try(n+6, "@b", "K", 2), try(n+7, "@b", "k", 2), try(n+8, "@b", "kk", 2))
}

func TestTickTimes(t *testing.T) {
	t.Parallel()
	delays := []int{2, 4, 8, 16, 32, 60, 60, 60}
	for _, from := range []int{0, 1, 77, 999999000} {
		a := asker{t, New()}
		a.set("@a", "k", "event_id_only", api.OK)
		a.push("@a", 5)
		a.tick(-1)
		a.tick(math.MinInt)
		now := from
		for i, delay := range delays {
			a.tick(now, try(i+1, "@a", "k", 5))
			a.tick(now)
			a.tick(math.MaxInt)
			a.reply(i+1, "fail", now, api.OK)
			a.prints("@a", row("k", "event_id_only", 1, i+1, now+delay, 0, 0))
			for _, early := range []int{math.MinInt, -1, 0, now, now + 1, now + delay - 1} {
				a.tick(early)
			}
			now += delay
		}
		a.tick(now+1000000, try(len(delays)+1, "@a", "k", 5))
		a.reply(len(delays)+1, "ok", now, api.OK)
		a.prints("@a", row("k", "event_id_only", 0, 0, 0, 0, 0))
		a.push("@a", 6)
		a.tick(0, try(len(delays)+2, "@a", "k", 6)) // what was heard is over: no delay
	}
}

func TestReplyAtTheBoundsOfTime(t *testing.T) {
	t.Parallel()
	a := asker{t, New()}
	a.set("@a", "k", "event_id_only", api.OK)
	a.push("@a", 1)
	a.tick(math.MaxInt, try(1, "@a", "k", 1))
	for _, now := range []int{math.MinInt, -1, 1000000001, math.MaxInt} {
		a.reply(1, "fail", now, api.ErrArg)
		a.reply(7, "fail", now, api.ErrArg) // the fault that is named first
	}
	a.reply(1, "fail", 0, api.OK)
	a.tick(2, try(2, "@a", "k", 1))
	a.reply(2, "fail", 1000000000, api.OK)
	a.prints("@a", row("k", "event_id_only", 1, 2, 1000000004, 0, 0))
	a.tick(1000000003)
	a.tick(1000000004, try(3, "@a", "k", 1))
	a.push("@a", 2)
	a.push("@a", 3)
	// With the other results no time counts.
	a.reply(3, "ok", math.MinInt, api.OK)
	a.tick(0, try(4, "@a", "k", 2))
	a.reply(4, "ok", math.MaxInt, api.OK)
	a.tick(0, try(5, "@a", "k", 3))
	a.reply(5, "rejected", -1, api.OK)
	a.prints("@a")
}

func TestReplyRefuses(t *testing.T) {
	t.Parallel()
	a := asker{t, New()}
	a.set("@a", "k", "event_id_only", api.OK)
	a.set("@b", "k", "event_id_only", api.OK) // has no attempt, ever
	a.push("@a", 1)
	a.push("@a", 2)
	a.reply(1, "ok", 0, api.ErrAttempt) // not yet
	a.tick(0, try(1, "@a", "k", 1))
	for _, result := range []string{"", "OK", "ok ", "Fail", "failed", "reject", "rejected\x00", "done", "okfail"} {
		for _, attempt := range []int{1, 0, 2, -1} {
			a.reply(attempt, result, 0, api.ErrArg)
		}
	}
	for _, attempt := range []int{0, 2, -1, 3, math.MaxInt, math.MinInt} {
		for _, result := range []string{"ok", "fail", "rejected"} {
			a.reply(attempt, result, 0, api.ErrAttempt)
		}
	}
	a.reply(1, "ok", 0, api.OK)
	for _, result := range []string{"ok", "fail", "rejected"} {
		a.reply(1, result, 0, api.ErrAttempt) // it was answered
	}
	a.prints("@a", row("k", "event_id_only", 1, 0, 0, 0, 0))
	a.tick(0, try(2, "@a", "k", 2))
	a.reply(2, "fail", 0, api.OK)
	for _, result := range []string{"ok", "fail", "rejected"} {
		a.reply(2, result, 0, api.ErrAttempt)
	}
	a.prints("@a", row("k", "event_id_only", 1, 1, 2, 0, 0))
	a.prints("@b", row("k", "event_id_only", 0, 0, 0, 0, 0))
}

func TestReplyGoesToItsPusher(t *testing.T) {
	t.Parallel()
	a := asker{t, New()}
	for _, key := range []string{"a", "b", "c", "d"} {
		a.set("@a", key, "event_id_only", api.OK)
	}
	a.push("@a", 1)
	a.push("@a", 2)
	a.tick(0, try(1, "@a", "a", 1), try(2, "@a", "b", 1), try(3, "@a", "c", 1), try(4, "@a", "d", 1))
	a.reply(3, "rejected", 0, api.OK)
	a.reply(4, "fail", 8, api.OK)
	a.reply(1, "ok", 8, api.OK)
	a.prints("@a", row("a", "event_id_only", 1, 0, 0, 0, 0), row("b", "event_id_only", 2, 0, 0, 0, 2), row("d", "event_id_only", 2, 1, 10, 0, 0))
	a.tick(9, try(5, "@a", "a", 2))
	a.tick(10, try(6, "@a", "d", 1))
	a.reply(6, "ok", 10, api.OK)
	a.reply(5, "ok", 10, api.OK)
	a.reply(2, "ok", 10, api.OK)
	a.tick(0, try(7, "@a", "b", 2), try(8, "@a", "d", 2))
}

func TestNumbersOfAttemptsEnd(t *testing.T) {
	t.Parallel()
	last := api.MaxInt
	bytes := saidNumber(int64(last)-1) + counted(
		saidPusher("@a", "k", false, []string{"1", "2"}, 0, 0, 0, 0), saidPusher("@a", "l", false, nil, 0, 0, 0, 0),
		saidPusher("@b", "k", false, []string{"3"}, 0, 0, 0, 0), saidPusher("@c", "k", false, []string{"4"}, 0, 0, 0, 0))
	a := asker{t, loaded(t, bytes)}
	a.tick(0, api.Attempt{ID: last - 1, User: "@a", Key: "k", Payload: "1"}, api.Attempt{ID: last, User: "@b", Key: "k", Payload: "3"})
	a.tick(0)
	a.prints("@c", row("k", "event_id_only", 1, 0, 0, 0, 0))
	loaded(t, saved(a.post))
	a.reply(last+1, "ok", 0, api.ErrAttempt)
	a.reply(last-1, "ok", 0, api.OK)
	a.tick(0) // there are notes, and no numbers
	a.tick(math.MaxInt)
	a.reply(last, "fail", 0, api.OK)
	a.tick(2)
	a.set("@d", "k", "event_id_only", api.OK)
	a.push("@d", 1)
	a.tick(0)
	a.prints("@d", row("k", "event_id_only", 1, 0, 0, 0, 0))
	if got := saved(a.post); !strings.HasPrefix(got, saidNumber(int64(last)+1)) {
		t.Errorf("U4: the next number is saved as %q", got[:10])
	}
	loaded(t, saved(a.post))
}

func TestPrint(t *testing.T) {
	t.Parallel()
	a := asker{t, New()}
	a.set("@a", "z", "full", api.OK)
	a.set("@a", "a", "event_id_only", api.OK)
	a.set("@ab", "k", "full", api.OK)
	a.set("@a", "\"\\", "full", api.OK)
	a.prints("@a", `{'attempt':0,'dropped':0,'failures':0,'format':'full','key':'\'\\','until':0,'waits':0}`, row("a", "event_id_only", 0, 0, 0, 0, 0), row("z", "full", 0, 0, 0, 0, 0))
	for _, user := range []string{"", "@", "@aa", "@abc", "@b", "\xff", strings.Repeat("@a", 1000)} {
		a.prints(user)
	}
	a.remove("@a", "\"\\", api.OK)
	a.push("@a", 1)
	a.post.Tick(0)
	a.reply(2, "fail", 3, api.OK)
	a.prints("@a", row("a", "event_id_only", 1, 0, 0, 0, 1), row("z", "full", 1, 1, 5, 0, 0))
	a.prints("@ab", row("k", "full", 0, 0, 0, 0, 0))
	if v := a.post.Print("@none"); v.Kind() != jsonval.List || v.Len() != 0 {
		t.Errorf("U6: Print of a user without pushers: %s", v.Print())
	}
}

func TestAnswersAreTheCallers(t *testing.T) {
	t.Parallel()
	a := asker{t, New()}
	for _, key := range []string{"k", "l", "m"} {
		a.set("@a", key, "event_id_only", api.OK)
	}
	a.push("@a", 1)
	first := a.post.Tick(0)
	for i := range first {
		first[i] = api.Attempt{ID: 77, User: "x", Key: "x", Payload: "x"}
	}
	first = append(first, first...)
	first = first[:cap(first)]
	for i := range first {
		first[i].ID = 88
	}
	a.reply(1, "ok", 0, api.OK)
	a.reply(3, "fail", 0, api.OK)
	a.prints("@a", row("k", "event_id_only", 0, 0, 0, 0, 0), row("l", "event_id_only", 1, 0, 0, 0, 2), row("m", "event_id_only", 1, 1, 2, 0, 0))
	a.push("@a", 2)
	second := a.post.Tick(2)
	kept := slices.Clone(second)
	_ = append(first[:0], api.Attempt{}, api.Attempt{})
	a.reply(4, "ok", 2, api.OK)
	a.post.Tick(2)
	if !slices.Equal(second, kept) || second[0] != try(4, "@a", "k", 2) || second[1] != try(5, "@a", "m", 1) {
		t.Errorf("P3: an answer has become %v", second)
	}
}

func TestPayloadsStayAsTheyWere(t *testing.T) {
	t.Parallel()
	a := asker{t, New()}
	a.set("@a", "k", "full", api.OK)
	members := map[string]*jsonval.Value{"event_id": jsonval.OfText("$1"), "room_id": jsonval.OfText("!r")}
	actions := api.Actions{Sound: "ring"}
	a.post.Push("@a", jsonval.OfMap(members), actions, 4)
	want := `{"counts":{"unread":4},"event":{"event_id":"$1","room_id":"!r"},"tweaks":{"sound":"ring"}}`
	members["event_id"] = jsonval.OfText("$2")
	actions.Sound = "other"
	a.set("@a", "k", "event_id_only", api.OK)
	a.push("@a", 5)
	a.set("@b", "k", "full", api.OK)
	a.remove("@b", "k", api.OK)
	a.tick(0, api.Attempt{ID: 1, User: "@a", Key: "k", Payload: want})
	a.reply(1, "fail", 0, api.OK)
	a.tick(2, api.Attempt{ID: 2, User: "@a", Key: "k", Payload: want}) // each time the same
}
