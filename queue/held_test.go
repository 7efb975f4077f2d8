package queue

import (
	"fmt"
	"iter"
	"math"
	"math/rand"
	"slices"
	"strings"
	"testing"

	"tocsin/api"
)

// A pair is a queue and its model, of which the same is asked.
type pair struct {
	testing.TB
	queue *Queue[string]
	model *model
	said  []string // what was called, for who reads of a fault
	went  []string // what was heard or dropped, in this order
}

func newPair(t testing.TB, size, base, most int) *pair {
	t.Helper()
	return &pair{TB: t, queue: newQueue[string](t, size, base, most), model: &model{size: size, base: base, most: most}}
}

// hold wants that both have answered the same, and that they are alike behind it.
func (p *pair) hold(promise, what string, got, want any) {
	p.Helper()
	p.said = append(p.said, what)
	if got != want {
		p.Fatalf("%s: New(%d, %d, %d); %s: %v, want %v", promise, p.model.size, p.model.base, p.model.most, strings.Join(p.said, "; "), got, want)
	}
	if s := stateOf(p.queue); s != p.model.state() {
		p.Fatalf("%s, Q5: New(%d, %d, %d); %s: the state is %v, want %v", promise, p.model.size, p.model.base, p.model.most, strings.Join(p.said, "; "), s, p.model.state())
	}
	if all := slices.Collect(p.queue.All()); !slices.Equal(all, p.model.waiting()) {
		p.Fatalf("%s, Q5: New(%d, %d, %d); %s: there wait %q, want %q", promise, p.model.size, p.model.base, p.model.most, strings.Join(p.said, "; "), all, p.model.waiting())
	}
}

// given is a thing and whether there is one.
type given struct {
	thing string
	ok    bool
}

func (p *pair) put(x string) {
	p.Helper()
	var got, want given
	got.thing, got.ok = p.queue.Put(x)
	want.thing, want.ok = p.model.addPut(x)
	p.hold("Q2", fmt.Sprintf("Put(%q)", x), got, want)
	if got.ok {
		p.went = append(p.went, got.thing)
	}
}

func (p *pair) head(now int) {
	p.Helper()
	var got, want given
	got.thing, got.ok = p.queue.Head(now)
	want.thing, want.ok = p.model.head(now)
	p.hold("Q3", fmt.Sprintf("Head(%d)", now), got, want)
	p.said = p.said[:len(p.said)-1]
}

// heads asks around until, and far from it.
func (p *pair) heads() {
	p.Helper()
	for _, now := range []int{math.MinInt, -1, 0, 1, p.model.until - 1, p.model.until, p.model.until + 1, api.MaxTime, 2 * api.MaxTime, math.MaxInt} {
		p.head(now)
	}
}

func (p *pair) done() {
	p.Helper()
	oldest, ok := p.queue.Head(math.MaxInt)
	p.hold("Q4", "Done", p.queue.Done(), p.model.addDone())
	if ok {
		p.went = append(p.went, oldest)
	}
}

func (p *pair) failed(now int) {
	p.Helper()
	p.hold("Q4", fmt.Sprintf("Failed(%d)", now), p.queue.Failed(now), p.model.addFailed(now))
}

func (p *pair) set(failures, until, dropped int) {
	p.Helper()
	p.hold("Q6", fmt.Sprintf("Set(%d, %d, %d)", failures, until, dropped), p.queue.Set(failures, until, dropped), p.model.set(failures, until, dropped))
}

// beginning wants that what went is a beginning of what was put.
func (p *pair) beginning() {
	p.Helper()
	if len(p.went) > len(p.model.put) || !slices.Equal(p.went, p.model.put[:len(p.went)]) {
		p.Errorf("What follows: %s: there went %q, and were put %q", strings.Join(p.said, "; "), p.went, p.model.put)
	}
}

// A kept row is one that All gave, and what waited then.
type kept struct {
	row  iter.Seq[string]
	want []string
}

// edgeOf is a number at an edge of a bound, or one between, by chance.
func edgeOf(rnd *rand.Rand, greatest int) int {
	edges := []int{math.MinInt, -1, 0, 1, greatest - 1, greatest, greatest + 1, math.MaxInt}
	if rnd.Intn(2) == 0 {
		return rnd.Intn(40)
	}
	return edges[rnd.Intn(len(edges))]
}

// step calls something by chance.
func (p *pair) step(rnd *rand.Rand) {
	p.Helper()
	switch what := rnd.Intn(20); {
	case what < 9:
		p.put(fmt.Sprint(len(p.model.put)))
	case what < 12:
		p.done()
	case what < 17:
		p.failed(edgeOf(rnd, api.MaxTime))
	case what < 18:
		p.set(edgeOf(rnd, api.MaxTime), edgeOf(rnd, 2*api.MaxTime), edgeOf(rnd, api.MaxTime))
	default:
		p.heads()
	}
}

// TestRowsByChance: rows of calls of any order, held against the list; what All gave at any time stays what it was.
func TestRowsByChance(t *testing.T) {
	t.Parallel()
	for seed := range int64(400) {
		rnd := rand.New(rand.NewSource(seed))
		base := 1 + rnd.Intn(9)
		p := newPair(t, 1+rnd.Intn(9), base, base+rnd.Intn(100))
		var rows []kept
		for range 120 {
			p.step(rnd)
			if rnd.Intn(10) == 0 {
				rows = append(rows, kept{p.queue.All(), slices.Clone(p.model.waiting())})
			}
		}
		for _, k := range rows {
			if got := slices.Collect(k.row); !slices.Equal(got, k.want) {
				t.Fatalf("Q5: seed %d: a row of All has become %q, was %q", seed, got, k.want)
			}
		}
		p.beginning()
	}
}

// TestShortRows: all rows of six calls from a few, of queues of one to three places.
func TestShortRows(t *testing.T) {
	t.Parallel()
	steps := []func(p *pair){
		func(p *pair) { p.put(fmt.Sprint(len(p.model.put))) },
		func(p *pair) { p.done() },
		func(p *pair) { p.failed(5) },
		func(p *pair) { p.failed(-1) },
		func(p *pair) { p.set(3, 9, 2) },
	}
	const length = 6
	rows := 1
	for range length {
		rows *= len(steps)
	}
	for size := 1; size <= 3; size++ {
		for row := range rows {
			p := newPair(t, size, 3, 10)
			for range length {
				steps[row%len(steps)](p)
				row /= len(steps)
			}
			p.heads()
			p.beginning()
		}
	}
}

// TestGreatQueue: a queue of as many places as may be, filled, gone through and emptied several times.
func TestGreatQueue(t *testing.T) {
	t.Parallel()
	q, m := newQueue[string](t, 1000, 1, 1), &model{size: 1000, base: 1, most: 1}
	for i := range 3500 {
		x := fmt.Sprint(i)
		went, ok := q.Put(x)
		if wantWent, wantOK := m.addPut(x); went != wantWent || ok != wantOK {
			t.Fatalf("Q2: Put(%q): %q, %v; want %q, %v", x, went, ok, wantWent, wantOK)
		}
	}
	if all := slices.Collect(q.All()); !slices.Equal(all, m.waiting()) || len(all) != 1000 {
		t.Fatalf("Q5: %d wait, want the last thousand", len(all))
	}
	for range 1001 {
		x, ok := q.Head(0)
		if want, wantOK := m.head(0); x != want || ok != wantOK {
			t.Fatalf("Q3: Head(0): %q, %v; want %q, %v", x, ok, want, wantOK)
		}
		if got, want := q.Done(), m.addDone(); got != want || stateOf(q) != m.state() {
			t.Fatalf("Q4: Done: %d, %v; want %d, %v", got, stateOf(q), want, m.state())
		}
	}
}

// TestTwoByTurns: two queues have nothing to do with one another (P4).
func TestTwoByTurns(t *testing.T) {
	t.Parallel()
	for seed := range int64(50) {
		rnd := rand.New(rand.NewSource(seed))
		pairs := []*pair{newPair(t, 2, 3, 10), newPair(t, 4, 1, 7), newPair(t, 2, 3, 10)}
		for range 200 {
			pairs[rnd.Intn(len(pairs))].step(rnd)
		}
		for _, p := range pairs {
			p.hold("P4", "", 0, 0)
			p.heads()
		}
	}
}

// TestAlike: the same calls are answered alike (P4).
func TestAlike(t *testing.T) {
	t.Parallel()
	first, second := newPair(t, 3, 2, 60), newPair(t, 3, 2, 60)
	one, two := rand.New(rand.NewSource(7)), rand.New(rand.NewSource(7))
	for range 500 {
		first.step(one)
		second.step(two)
		if a, b := stateOf(first.queue), stateOf(second.queue); a != b {
			t.Fatalf("P4: %s: %v and %v", strings.Join(first.said, "; "), a, b)
		}
	}
}
