package pusher

import (
	"fmt"
	"math"
	"math/rand"
	"strings"
	"sync"
	"testing"

	"tocsin/api"
	"tocsin/jsonval"
	"tocsin/wire"
)

// A pair is a post and its model, of which the same is asked.
type pair struct {
	testing.TB
	post  *Post
	model *model
	said  []string // what was called, for who reads of a fault
}

func newPair(t testing.TB) *pair { return &pair{TB: t, post: New(), model: &model{}} }

// pairOf begins with what stands in bytes.
func pairOf(t testing.TB, bytes string) *pair {
	t.Helper()
	return &pair{TB: t, post: loaded(t, bytes), model: modelLoad(bytes), said: []string{fmt.Sprintf("Load(%q)", bytes)}}
}

// hold wants that both have answered the same.
func (p *pair) hold(promise, what string, got, want any) {
	p.Helper()
	p.said = append(p.said, what)
	if got != want {
		p.Fatalf("%s: %s: %v, want %v", promise, strings.Join(p.said, "; "), got, want)
	}
}

// same wants that both are saved as the same bytes, which tell all that they are.
func (p *pair) same() {
	p.Helper()
	p.hold("U7, P2", "Save", fmt.Sprintf("%q", saved(p.post)), fmt.Sprintf("%q", p.model.save()))
	p.said = p.said[:len(p.said)-1]
}

func (p *pair) set(user, key, format string) {
	p.Helper()
	got, want := p.post.Set(user, key, format), p.model.set(user, key, format)
	p.hold("U2", fmt.Sprintf("Set(%q, %q, %q)", user, key, format), int(got), int(want))
}

func (p *pair) remove(user, key string) {
	p.Helper()
	got, want := p.post.Remove(user, key), p.model.remove(user, key)
	p.hold("U2", fmt.Sprintf("Remove(%q, %q)", user, key), int(got), int(want))
}

func (p *pair) push(user string, event *jsonval.Value, a api.Actions, unread int) {
	p.Helper()
	p.post.Push(user, event, a, unread)
	p.model.push(user, event, a, unread)
	p.hold("U3", fmt.Sprintf("Push(%q, %s, %v, %d)", user, event.Print(), a, unread), 0, 0)
}

func (p *pair) tick(now int) {
	p.Helper()
	got, want := p.post.Tick(now), p.model.tick(now)
	p.hold("U4", fmt.Sprintf("Tick(%d)", now), fmt.Sprintf("%+v", got), fmt.Sprintf("%+v", want))
}

func (p *pair) reply(attempt int, result string, now int) {
	p.Helper()
	got, want := p.post.Reply(attempt, result, now), p.model.reply(attempt, result, now)
	p.hold("U5", fmt.Sprintf("Reply(%d, %q, %d)", attempt, result, now), int(got), int(want))
}

func (p *pair) prints(user string) {
	p.Helper()
	p.hold("U6", fmt.Sprintf("Print(%q)", user), p.post.Print(user).Print(), p.model.print(user))
	p.said = p.said[:len(p.said)-1]
}

// reload goes on with the post that was saved and loaded.
func (p *pair) reload() {
	p.Helper()
	p.same()
	post, errno := Load(wire.NewReader([]byte(saved(p.post))))
	p.hold("U7", "Load", int(errno), 0)
	p.post = post
}

// A world is what calls by chance are made of.
type world struct {
	users, keys, formats, results []string
	events                        []*jsonval.Value
	sounds                        []string
	times                         []int
}

func one[T any](r *rand.Rand, l []T) T { return l[r.Intn(len(l))] }

func strangeWorld() world {
	long := strings.Repeat("x", 60)
	return world{
		users:   []string{"", "@a", "@a\x00", "@ab", "@b", "\xff", long, long + "x"},
		keys:    []string{"", "!", "k", "kk", "l", "~", "a b", "\x7f", "é", long, long + "x"},
		formats: []string{"full", "full", "event_id_only", "event_id_only", "", "FULL", "event_id"},
		results: []string{"ok", "ok", "fail", "fail", "rejected", "", "OK", "failed"},
		events:  []*jsonval.Value{nil, value(`{"event_id":"$1","room_id":"!r"}`), value(`{"event_id":1,"room_id":["!r"]}`), value(`"$1"`), value(`{"a":{"event_id":"$1"},"room_id":"\u0001\"é"}`)},
		sounds:  []string{"", "", "ring", "\"\n\xff"},
		times:   []int{math.MinInt, -1, 0, 1, 2, 3, 4, 8, 60, 999999999, 1000000000, 1000000001, 1000000060, 2000000000, math.MaxInt},
	}
}

// calmWorld has few names and little that is wrong, so that queues become full, and attempts many.
func calmWorld() world {
	w := strangeWorld()
	w.users, w.keys, w.formats = []string{"@a", "@b"}, []string{"k", "l"}, []string{"full", "event_id_only"}
	w.results = []string{"ok", "fail", "fail", "fail", "ok", "fail", "rejected"}
	w.times = []int{0, 1, 2, 5, 9, 17, 33, 60, 100, 1000}
	return w
}

func (w world) call(r *rand.Rand, p *pair) {
	user, key, now := one(r, w.users), one(r, w.keys), one(r, w.times)
	switch n := r.Intn(20); {
	case n < 4:
		p.set(user, key, one(r, w.formats))
	case n < 5:
		p.remove(user, key)
	case n < 11:
		p.push(user, one(r, w.events), api.Actions{Notify: n%2 == 0, Highlight: r.Intn(2) == 0, Sound: one(r, w.sounds)}, one(r, append([]int{p.model.tried}, w.times...)))
	case n < 14:
		p.tick(now)
	case n < 18:
		p.reply(p.model.tried-r.Intn(5)+1, one(r, w.results), now)
	case n < 19:
		p.reload()
	default:
		p.prints(user)
	}
}

func TestRowsByChance(t *testing.T) {
	for seed := range int64(24) {
		w := strangeWorld()
		if seed%2 == 1 {
			w = calmWorld()
		}
		t.Run(fmt.Sprint(seed), func(t *testing.T) {
			t.Parallel()
			r := rand.New(rand.NewSource(seed))
			for range 12 {
				p := newPair(t)
				for range 250 {
					w.call(r, p)
					p.same()
				}
				for _, user := range w.users {
					p.prints(user)
				}
			}
		})
	}
}

// rowsOf calls all rows of so many calls from these, each from its own beginning.
func rowsOf(t *testing.T, bytes string, calls []func(p *pair), length int) {
	row := make([]int, length)
	for {
		p := pairOf(t, bytes)
		for _, i := range row {
			calls[i](p)
		}
		p.same()
		p.prints("@a")
		at := length - 1
		for at >= 0 && row[at] == len(calls)-1 {
			row[at] = 0
			at--
		}
		if at < 0 {
			return
		}
		row[at]++
	}
}

// someCalls are calls of two pushers, whose attempts are from the number on.
func someCalls(from int) []func(p *pair) {
	event := value(`{"event_id":"$1","room_id":"!r"}`)
	return []func(p *pair){
		func(p *pair) { p.set("@a", "k", "full") },
		func(p *pair) { p.set("@a", "l", "event_id_only") },
		func(p *pair) { p.remove("@a", "k") },
		func(p *pair) { p.push("@a", event, api.Actions{Highlight: true}, p.model.tried) },
		func(p *pair) { p.tick(0) },
		func(p *pair) { p.tick(3) },
		func(p *pair) { p.reply(from, "ok", 0) },
		func(p *pair) { p.reply(from, "fail", 1) },
		func(p *pair) { p.reply(from+1, "fail", 2) },
		func(p *pair) { p.reply(from+1, "rejected", 0) },
	}
}

func TestAllShortRows(t *testing.T) {
	eight := []string{"1", "2", "3", "4", "5", "6", "7", "8"}
	for what, c := range map[string]struct {
		bytes  string
		from   int
		length int
	}{
		"from nothing on":     {saidNumber(1) + counted(), 1, 5},
		"from one note on":    {saidNumber(1) + counted(saidPusher("@a", "k", true, eight[:1], 0, 0, 0, 0)), 1, 4},
		"from full queues on": {saidNumber(6) + counted(saidPusher("@a", "k", true, eight, 2, 1, 9, 5), saidPusher("@a", "l", false, eight, 0, 0, 1000000000, 0)), 5, 4},
		"from the last on":    {saidNumber(api.MaxInt) + counted(saidPusher("@a", "k", true, eight[:2], 0, 0, 0, 0), saidPusher("@a", "l", true, eight[:2], 0, 0, 0, 0)), api.MaxInt, 4},
	} {
		t.Run(what, func(t *testing.T) {
			t.Parallel()
			rowsOf(t, c.bytes, someCalls(c.from), c.length)
		})
	}
}

// heldLoad wants that bytes are read, or refused, as the model says.
func heldLoad(t *testing.T, bytes string) {
	t.Helper()
	in := wire.NewReader([]byte(bytes))
	post, errno := Load(in)
	m := modelLoad(bytes)
	if m == nil {
		if post != nil || errno != api.ErrWire {
			t.Fatalf("U7, P2: Load(%q): %v, %d; want nil, ErrWire", bytes, post != nil, errno)
		}
		return
	}
	if post == nil || errno != api.OK {
		t.Fatalf("U7: Load(%q): %v, %d; want a post, OK", bytes, post != nil, errno)
	}
	if got := saved(post); got != m.save() || !strings.HasPrefix(bytes, got) {
		t.Fatalf("U7: Load(%q) is saved as %q", bytes, got)
	}
	p := &pair{TB: t, post: post, model: m, said: []string{fmt.Sprintf("Load(%q)", bytes)}}
	p.tick(5)
	p.reply(2, "ok", 0)
	p.push("a", nil, api.Actions{}, 1)
	p.tick(math.MaxInt)
	p.same()
}

func TestAllPairsOfSavedPushers(t *testing.T) {
	t.Parallel()
	var all []string
	for _, user := range []string{"", "a", "aa"} {
		for _, key := range []string{"k", "kk", "", " "} {
			for _, notes := range [][]string{nil, {"n"}} {
				for _, attempt := range []int64{-1, 0, 1, 2, 3} {
					all = append(all, saidPusher(user, key, attempt == 1, notes, 0, attempt+1, 1, attempt))
				}
			}
		}
	}
	for _, next := range []int64{0, 1, 3} {
		for _, a := range all {
			heldLoad(t, saidNumber(next)+counted(a))
			for _, b := range all {
				heldLoad(t, saidNumber(next)+counted(a, b))
			}
		}
	}
}

func TestAllNumbersOfSavedPushers(t *testing.T) {
	t.Parallel()
	numbers := []int64{math.MinInt64, -1, 0, 1, 999999999, 1000000000, 1000000001, 1999999999, 2000000000, 2000000001, 1 << 32, api.MaxInt, api.MaxInt + 1, api.MaxInt + 2, math.MaxInt64}
	for _, a := range numbers {
		for _, b := range numbers {
			heldLoad(t, saidNumber(b)+counted(saidPusher("a", "k", true, []string{"n"}, 0, 0, 0, a)))
			heldLoad(t, saidNumber(2)+counted(saidPusher("a", "k", true, []string{"n"}, a, b, 0, 1)))
			heldLoad(t, saidNumber(2)+counted(saidPusher("a", "k", true, []string{"n"}, 0, a, b, 1)))
			heldLoad(t, saidNumber(2)+counted(saidPusher("a", "k", true, []string{"n"}, b, 0, a, 1)))
		}
	}
}

func TestSpoiltBytes(t *testing.T) {
	t.Parallel()
	bytes := saidNumber(300) + counted(saidPusher("", "~", true, nil, 0, 0, 0, 0), saidPusher("@a", "!", false, []string{"1", "", "3"}, 0, 0, 2, 2),
		saidPusher("@b", "k", true, []string{"n"}, 1, 70, 0, 299), saidPusher("@b", "l", false, []string{"n"}, 2, 7, 0, 0))
	for i := range bytes {
		heldLoad(t, bytes[:i])
		heldLoad(t, bytes[:i]+bytes[i+1:])
		for b := range 256 {
			heldLoad(t, bytes[:i]+string([]byte{byte(b)})+bytes[i+1:])
		}
		for _, b := range []byte{0, 1, 2, 'a', 0xff} {
			heldLoad(t, bytes[:i]+string([]byte{b})+bytes[i:])
		}
	}
}

func TestTwoByTurns(t *testing.T) {
	t.Parallel()
	w := calmWorld()
	for seed := range int64(20) {
		r := rand.New(rand.NewSource(seed))
		a, b := newPair(t), newPair(t)
		for range 150 {
			w.call(r, a)
			b.same()
			w.call(r, b)
			a.same()
		}
	}
}

func TestManyAtOnce(t *testing.T) {
	t.Parallel()
	w := calmWorld() // events are shared: they are never changed
	var all sync.WaitGroup
	for seed := range int64(16) {
		all.Go(func() {
			r := rand.New(rand.NewSource(seed))
			p := newPair(t)
			for range 200 {
				w.call(r, p)
			}
			if saved(p.post) != p.model.save() {
				t.Errorf("P4: %s: other things of its kind count", strings.Join(p.said, "; "))
			}
		})
	}
	all.Wait()
}

func TestSameCallsSameAnswers(t *testing.T) {
	t.Parallel()
	said := func() string {
		r := rand.New(rand.NewSource(7))
		p, w := newPair(t), strangeWorld()
		for range 400 {
			w.call(r, p)
		}
		return saved(p.post) + p.post.Print("@a").Print() + fmt.Sprint(p.post.Tick(math.MaxInt))
	}
	first := said()
	for range 10 {
		if said() != first {
			t.Fatal("P4: the same calls give other answers")
		}
	}
}

// A listener is who is told by a pusher of one user, and knows what should come.
type listener struct {
	asker
	chance                      *rand.Rand
	put, heard, now             int
	failures, soonest, attempts int
}

// push puts a note whose unread number is how many were put ahead of it.
func (l *listener) push() {
	l.post.Push("@a", nil, api.Actions{}, l.put)
	l.put++
}

func (l *listener) state(key string) int {
	return int(l.post.Print("@a").Item(0).Get(key).Number())
}

// listen looks at what is tried now: the note that stands behind all that were heard and dropped.
func (l *listener) listen() {
	row := l.post.Tick(l.now)
	if due := l.put > l.heard+l.state("dropped") && l.now >= l.soonest; due != (len(row) == 1) || len(row) > 1 {
		l.Fatalf("P10, U4: Tick(%d) = %v; an attempt is due: %v", l.now, row, due)
	}
	if len(row) == 0 {
		return
	}
	l.attempts++
	if want := told("event_id_only", nil, api.Actions{}, l.heard+l.state("dropped")); row[0].Payload != want || row[0].ID != l.attempts {
		l.Fatalf("P10, U4: the attempt %d: %s, want %d: %s", row[0].ID, row[0].Payload, l.attempts, want)
	}
	l.answer(row[0].ID)
}

func (l *listener) answer(attempt int) {
	switch l.chance.Intn(5) {
	case 0, 1:
		l.reply(attempt, "ok", l.now, api.OK)
		l.heard++
		l.failures, l.soonest = 0, 0
	case 2, 3:
		l.reply(attempt, "fail", l.now, api.OK)
		l.failures++
		l.soonest = l.now + delayOf(l.failures)
	default: // none, till the note is dropped
		for range 8 {
			l.push()
		}
		l.reply(attempt, "ok", l.now, api.ErrAttempt)
	}
}

// TestWhatFollows: the attempts are the notes in their order, each tried again till it was heard, but for those that were dropped; and none comes too soon (P10).
func TestWhatFollows(t *testing.T) {
	t.Parallel()
	for seed := range int64(40) {
		l := &listener{asker: asker{t, New()}, chance: rand.New(rand.NewSource(seed))}
		l.set("@a", "k", "event_id_only", api.OK)
		for range 400 {
			if l.chance.Intn(3) > 0 {
				l.push()
			}
			l.now += l.chance.Intn(20)
			l.listen()
			if l.put != l.heard+l.state("dropped")+l.state("waits") {
				t.Fatalf("P10: of %d notes %d were heard, %d dropped, %d wait", l.put, l.heard, l.state("dropped"), l.state("waits"))
			}
		}
		l.push()
		l.now += 60
		row := l.post.Tick(l.now)
		l.reply(row[0].ID, "rejected", l.now, api.OK)
		l.push()
		l.tick(math.MaxInt) // behind a rejection never
	}
}
