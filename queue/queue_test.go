package queue

import (
	"fmt"
	"iter"
	"math"
	"runtime"
	"slices"
	"strings"
	"testing"
	"weak"

	"tocsin/api"
)

// The calls are as they were given.
var (
	_ func(size int, base int, most int) (*Queue[string], api.Errno)           = New[string]
	_ func(q *Queue[string], x string) (string, bool)                          = (*Queue[string]).Put
	_ func(q *Queue[string], now int) (string, bool)                           = (*Queue[string]).Head
	_ func(q *Queue[string]) api.Errno                                         = (*Queue[string]).Done
	_ func(q *Queue[string], now int) api.Errno                                = (*Queue[string]).Failed
	_ func(q *Queue[string]) (waits int, failures int, until int, dropped int) = (*Queue[string]).State
	_ func(q *Queue[string]) iter.Seq[string]                                  = (*Queue[string]).All
	_ func(q *Queue[string], failures int, until int, dropped int) api.Errno   = (*Queue[string]).Set
)

func newQueue[T any](t testing.TB, size, base, most int, things ...T) *Queue[T] {
	t.Helper()
	q, errno := New[T](size, base, most)
	if q == nil || errno != api.OK {
		t.Fatalf("Q1: New(%d, %d, %d): %v, %d", size, base, most, q != nil, errno)
	}
	for _, x := range things {
		q.Put(x)
	}
	return q
}

func stateOf[T any](q *Queue[T]) [4]int {
	waits, failures, until, dropped := q.State()
	return [4]int{waits, failures, until, dropped}
}

// An asker asks a queue of texts, and wants what is expected.
type asker struct {
	testing.TB
	queue *Queue[string]
}

func newAsker(t testing.TB, size, base, most int, things ...string) asker {
	t.Helper()
	return asker{t, newQueue(t, size, base, most, things...)}
}

func (r asker) put(x, went string) {
	r.Helper()
	if got, ok := r.queue.Put(x); got != went || ok != (went != "") {
		r.Errorf("Q2: Put(%q): %q, %v; want %q", x, got, ok, went)
	}
}

func (r asker) head(now int, want string) {
	r.Helper()
	if got, ok := r.queue.Head(now); got != want || ok != (want != "") {
		r.Errorf("Q3: Head(%d): %q, %v; want %q", now, got, ok, want)
	}
}

func (r asker) done(want api.Errno) {
	r.Helper()
	if got := r.queue.Done(); got != want {
		r.Errorf("Q4: Done: %d, want %d", got, want)
	}
}

func (r asker) failed(now int, want api.Errno) {
	r.Helper()
	if got := r.queue.Failed(now); got != want {
		r.Errorf("Q4: Failed(%d): %d, want %d", now, got, want)
	}
}

func (r asker) set(failures, until, dropped int, want api.Errno) {
	r.Helper()
	if got := r.queue.Set(failures, until, dropped); got != want {
		r.Errorf("Q6: Set(%d, %d, %d): %d, want %d", failures, until, dropped, got, want)
	}
}

func (r asker) state(waits, failures, until, dropped int) {
	r.Helper()
	if got, want := stateOf(r.queue), [4]int{waits, failures, until, dropped}; got != want {
		r.Errorf("Q5: State: %v, want %v", got, want)
	}
}

func (r asker) all(want string) {
	r.Helper()
	if got := strings.Join(slices.Collect(r.queue.All()), " "); got != want {
		r.Errorf("Q5: All: %q, want %q", got, want)
	}
}

func TestExamples(t *testing.T) {
	r := newAsker(t, 2, 3, 10)
	r.put("a", "")
	r.put("b", "")
	r.put("c", "a")
	r.state(2, 0, 0, 1)
	r.head(0, "b")
	r.failed(5, api.OK)
	r.state(2, 1, 8, 1)
	r.head(7, "")
	r.head(8, "b")
	r.failed(8, api.OK)
	r.state(2, 2, 14, 1)
	r.failed(14, api.OK)
	r.state(2, 3, 24, 1)
	r.done(api.OK)
	r.state(1, 0, 0, 1)
	r.head(0, "c")

	r = newAsker(t, 2, 3, 10)
	r.done(api.ErrState)
	r.failed(-1, api.ErrState)
	r.put("a", "")
	r.failed(-1, api.ErrArg)
}

func TestNew(t *testing.T) {
	const top = 1000000000
	for _, c := range [][3]int{
		{0, 1, 1}, {-1, 1, 1}, {1001, 1, 1}, {math.MinInt, 1, 1}, {math.MaxInt, 1, 1},
		{1, 0, 1}, {1, 0, 0}, {1, -1, 1}, {1, -1, -1}, {1, math.MinInt, 1}, {1, math.MinInt, math.MinInt},
		{1, top + 1, top + 1}, {1, top + 1, top}, {1, math.MaxInt, math.MaxInt},
		{1, 1, 0}, {1, 2, 1}, {1, 1, -1}, {1, top, top - 1}, {1, 1, math.MinInt},
		{1, 1, top + 1}, {1, top, top + 1}, {1, 1, math.MaxInt},
		{0, 0, 0}, {1001, top + 1, top + 1},
	} {
		if q, errno := New[string](c[0], c[1], c[2]); q != nil || errno != api.ErrArg {
			t.Errorf("Q1: New(%d, %d, %d): %v, %d; want nil, %d", c[0], c[1], c[2], q != nil, errno, api.ErrArg)
		}
	}
	for _, c := range [][3]int{
		{1, 1, 1}, {2, 1, 1}, {999, 1, 1}, {1000, 1, 1},
		{1, 1, 2}, {1, 1, top - 1}, {1, 1, top}, {1, 2, 2}, {1, 2, top},
		{1, top - 1, top - 1}, {1, top - 1, top}, {1, top, top}, {1000, top, top},
	} {
		r := newAsker(t, c[0], c[1], c[2])
		r.state(0, 0, 0, 0)
		r.all("")
		r.head(0, "")
		for range c[0] {
			r.put("x", "")
		}
		r.put("y", "x")
		r.state(c[0], 0, 0, 1)
	}
}

func TestPut(t *testing.T) {
	r := newAsker(t, 3, 1, 1)
	for i, x := range []string{"a", "b", "c"} {
		r.put(x, "")
		r.state(i+1, 0, 0, 0)
	}
	r.all("a b c")
	for i, x := range []string{"d", "e", "f", "g"} {
		r.put(x, []string{"a", "b", "c", "d"}[i])
		r.state(3, 0, 0, i+1)
	}
	r.all("e f g")
	r.done(api.OK)
	r.put("h", "")
	r.put("i", "f")
	r.state(3, 0, 0, 5)
	r.all("g h i")
}

// TestPutKeeps: Put leaves failures and until as they are, whether or not the oldest goes (Q2).
func TestPutKeeps(t *testing.T) {
	r := newAsker(t, 2, 3, 10, "a")
	r.failed(5, api.OK)
	r.failed(5, api.OK)
	r.put("b", "")
	r.state(2, 2, 11, 0)
	r.put("c", "a")
	r.state(2, 2, 11, 1)
	r.head(10, "")
	r.head(11, "b")
	r.failed(20, api.OK)
	r.state(2, 3, 30, 1)

	empty := newAsker(t, 1, 3, 10)
	empty.set(4, 50, 0, api.OK)
	empty.put("a", "")
	empty.state(1, 4, 50, 0)
	empty.head(49, "")
	empty.head(50, "a")
}

func TestDroppedStays(t *testing.T) {
	r := newAsker(t, 1, 1, 1, "a")
	r.set(0, 0, api.MaxTime-1, api.OK)
	r.put("b", "a")
	r.state(1, 0, 0, api.MaxTime)
	r.put("c", "b")
	r.put("d", "c")
	r.state(1, 0, 0, api.MaxTime)
	r.all("d")
}

// TestZeroThings: a thing that is the zero value waits and goes as any other, told by true (Q2, Q3).
func TestZeroThings(t *testing.T) {
	q := newQueue[string](t, 1, 1, 1)
	if x, ok := q.Head(0); x != "" || ok {
		t.Errorf("Q3: Head of an empty queue: %q, %v", x, ok)
	}
	q.Put("")
	if x, ok := q.Head(0); x != "" || !ok {
		t.Errorf("Q3: Head of an empty text: %q, %v", x, ok)
	}
	if x, ok := q.Put("b"); x != "" || !ok {
		t.Errorf("Q2: Put, when an empty text goes: %q, %v", x, ok)
	}
	if n := len(slices.Collect(newQueue(t, 3, 1, 1, "", "", "").All())); n != 3 {
		t.Errorf("Q5: %d empty texts, want 3", n)
	}
}

func TestHead(t *testing.T) {
	r := newAsker(t, 2, 3, 10)
	for _, now := range []int{math.MinInt, -1, 0, 1, api.MaxTime, math.MaxInt} {
		r.head(now, "")
	}
	r.put("a", "")
	r.put("b", "")
	for range 3 { // it changes nothing
		for _, now := range []int{math.MinInt, -1} {
			r.head(now, "")
		}
		for _, now := range []int{0, 1, api.MaxTime, math.MaxInt} {
			r.head(now, "a")
		}
	}
	r.failed(5, api.OK)
	for range 3 {
		for _, now := range []int{math.MinInt, -8, 0, 5, 7} {
			r.head(now, "")
		}
		for _, now := range []int{8, 9, api.MaxTime, api.MaxTime + 1, math.MaxInt} {
			r.head(now, "a")
		}
	}
	r.state(2, 1, 8, 0)
	r.all("a b")
}

func TestDone(t *testing.T) {
	r := newAsker(t, 3, 3, 10)
	r.set(4, 5, 6, api.OK)
	r.done(api.ErrState)
	r.state(0, 4, 5, 6)
	for _, x := range []string{"a", "b", "c"} {
		r.put(x, "")
	}
	r.done(api.OK)
	r.state(2, 0, 0, 6)
	r.all("b c")
	r.failed(1, api.OK)
	r.done(api.OK)
	r.state(1, 0, 0, 6)
	r.head(0, "c")
	r.failed(1, api.OK)
	r.state(1, 1, 4, 6) // the row of failures has begun anew
	r.done(api.OK)
	r.state(0, 0, 0, 6)
	r.head(math.MaxInt, "")
	r.done(api.ErrState)
	r.put("d", "")
	r.head(0, "d")
}

func TestFailedRefuses(t *testing.T) {
	r := newAsker(t, 2, 3, 10)
	r.set(1, 2, 3, api.OK)
	for _, now := range []int{math.MinInt, -1, 0, 1, api.MaxTime, api.MaxTime + 1, math.MaxInt} {
		r.failed(now, api.ErrState)
		r.state(0, 1, 2, 3)
	}
	r.put("a", "")
	for _, now := range []int{math.MinInt, -1, api.MaxTime + 1, math.MaxInt} {
		r.failed(now, api.ErrArg)
		r.state(1, 1, 2, 3)
	}
	r.all("a")
}

// TestFailed: it does not ask whether it was time, and the oldest waits on (Q4).
func TestFailed(t *testing.T) {
	r := newAsker(t, 2, 1, 1000, "a", "b")
	r.failed(api.MaxTime, api.OK)
	r.state(2, 1, api.MaxTime+1, 0)
	r.failed(0, api.OK)
	r.state(2, 2, 2, 0)
	r.failed(api.MaxTime-1, api.OK)
	r.state(2, 3, api.MaxTime+3, 0)
	r.head(api.MaxTime+2, "")
	r.head(api.MaxTime+3, "a")
	r.failed(1, api.OK)
	r.state(2, 4, 9, 0)
	r.all("a b")

	far := newAsker(t, 1, api.MaxTime, api.MaxTime, "a")
	far.failed(api.MaxTime, api.OK)
	far.state(1, 1, 2*api.MaxTime, 0)
	far.head(2*api.MaxTime-1, "")
	far.head(2*api.MaxTime, "a")
}

// TestDelays: behind the k-th failure in a row Head gives nothing for as many ticks as the delay of k says.
func TestDelays(t *testing.T) {
	const top = api.MaxTime
	for _, c := range []struct {
		base, most int
		delays     []int
	}{
		{3, 10, []int{3, 6, 10, 10, 10}},
		{3, 11, []int{3, 6, 11, 11}},
		{3, 12, []int{3, 6, 12, 12, 12}},
		{3, 13, []int{3, 6, 12, 13, 13}},
		{2, 60, []int{2, 4, 8, 16, 32, 60, 60}},
		{1, 1, []int{1, 1, 1}},
		{1, 2, []int{1, 2, 2}},
		{1, 3, []int{1, 2, 3, 3}},
		{2, 3, []int{2, 3, 3}},
		{7, 7, []int{7, 7, 7}},
		{top, top, []int{top, top, top}},
		{top - 1, top, []int{top - 1, top, top}},
		{top / 2, top, []int{top / 2, top, top}},
		{top/2 + 1, top, []int{top/2 + 1, top, top}},
		{top/2 - 1, top, []int{top/2 - 1, top - 2, top, top}},
	} {
		r := newAsker(t, 1, c.base, c.most, "a")
		for i, delay := range c.delays {
			now := 5 + 7*i
			r.failed(now, api.OK)
			r.state(1, i+1, now+delay, 0)
			r.head(now+delay-1, "")
			r.head(now+delay, "a")
		}
	}
}

// TestLongRows: many failures in a row, held against base times a power of two, and failures that are set.
func TestLongRows(t *testing.T) {
	t.Parallel()
	for _, c := range [][2]int{{1, api.MaxTime}, {3, api.MaxTime}, {2, 60}, {1, 1 << 29}, {999, 123456789}, {5, 5}} {
		r := newAsker(t, 1, c[0], c[1], "a")
		for k := 1; k <= 200; k++ {
			r.failed(k, api.OK)
			r.state(1, k, k+delayOf(c[0], c[1], k), 0)
		}
		for _, k := range []int{1, 2, 29, 30, 31, 32, 33, 62, 63, 64, 65, 66, 127, 128, 1 << 20, api.MaxTime} {
			r.set(k-1, 0, 0, api.OK)
			r.failed(1, api.OK)
			r.state(1, k, 1+delayOf(c[0], c[1], k), 0)
		}
	}
}

func TestFailuresStay(t *testing.T) {
	r := newAsker(t, 1, 3, 10, "a")
	r.set(api.MaxTime-1, 0, 0, api.OK)
	for i := range 3 {
		r.failed(i, api.OK)
		r.state(1, api.MaxTime, i+10, 0)
	}
	r.done(api.OK)
	r.state(0, 0, 0, 0)
}

func TestAll(t *testing.T) {
	r := newAsker(t, 3, 1, 1)
	r.all("")
	for _, x := range []string{"x", "a", "b", "c"} {
		r.queue.Put(x)
	}
	row := r.queue.All()
	for stop := 1; stop <= 3; stop++ { // stopped early, and begun anew
		var got []string
		for x := range row {
			got = append(got, x)
			if len(got) == stop {
				break
			}
		}
		if want := []string{"a", "b", "c"}[:stop]; !slices.Equal(got, want) {
			t.Errorf("Q5: All stopped behind %d: %q, want %q", stop, got, want)
		}
	}
	for range 2 {
		if got := slices.Collect(row); !slices.Equal(got, []string{"a", "b", "c"}) {
			t.Errorf("Q5: All gone through: %q", got)
		}
	}
	r.state(3, 0, 0, 1)
	next, stop := iter.Pull(row)
	defer stop()
	if x, ok := next(); x != "a" || !ok {
		t.Errorf("Q5: All asked one by one: %q, %v", x, ok)
	}
}

// TestAllMeanwhile: what All gave stays, whatever is called between All and the going through it, and on the way (Q5).
func TestAllMeanwhile(t *testing.T) {
	for name, change := range map[string]func(q *Queue[string]){
		"Put":    func(q *Queue[string]) { q.Put("n") },
		"Head":   func(q *Queue[string]) { q.Head(math.MaxInt) },
		"Done":   func(q *Queue[string]) { q.Done() },
		"Failed": func(q *Queue[string]) { q.Failed(3) },
		"Set":    func(q *Queue[string]) { q.Set(1, 2, 3) },
		"All": func(q *Queue[string]) {
			for range q.All() {
			}
		},
		"Done and Put": func(q *Queue[string]) {
			q.Done()
			q.Put("n")
		},
		"emptying and filling": func(q *Queue[string]) {
			for q.Done() == api.OK {
			}
			for range 5 {
				q.Put("n")
			}
		},
	} {
		for size := 3; size <= 4; size++ { // full, and with room
			q := newQueue(t, size, 1, 1, "a", "b", "c")
			row := q.All()
			change(q)
			for range 2 {
				var got []string
				for x := range row {
					got = append(got, x)
					change(q)
				}
				if !slices.Equal(got, []string{"a", "b", "c"}) {
					t.Errorf("Q5: %s, and %s for each: %q", name, name, got)
				}
			}
		}
	}
}

// TestAllWithin: a row gone through within itself, and two rows at once (Q5).
func TestAllWithin(t *testing.T) {
	q := newQueue(t, 2, 1, 1, "a", "b")
	row := q.All()
	q.Put("c")
	var got []string
	for x := range row {
		for y := range row {
			for z := range q.All() {
				got = append(got, x+y+z)
			}
		}
	}
	if want := "aab aac abb abc bab bac bbb bbc"; strings.Join(got, " ") != want {
		t.Errorf("Q5: %q, want %q", got, want)
	}
}

func TestSet(t *testing.T) {
	const top = 1000000000
	r := newAsker(t, 2, 3, 10, "a")
	for _, c := range [][3]int{{0, 0, 0}, {1, 2, 3}, {top, 0, 0}, {0, 2 * top, 0}, {0, 0, top}, {top, 2 * top, top}, {top - 1, 2*top - 1, top - 1}, {0, top + 1, 0}} {
		r.set(c[0], c[1], c[2], api.OK)
		r.state(1, c[0], c[1], c[2])
		r.head(c[1]-1, "")
		r.head(c[1], "a")
	}
	r.set(4, 5, 6, api.OK)
	for _, wrong := range []struct {
		place, greatest int
	}{{0, top}, {1, 2 * top}, {2, top}} {
		for _, n := range []int{math.MinInt, -1, wrong.greatest + 1, math.MaxInt} {
			c := [3]int{1, 2, 3}
			c[wrong.place] = n
			r.set(c[0], c[1], c[2], api.ErrArg)
			r.state(1, 4, 5, 6)
		}
	}
	r.set(-1, 2*top+1, -1, api.ErrArg)
	r.state(1, 4, 5, 6)
	r.all("a")
	r.failed(1, api.OK)
	r.state(1, 5, 11, 6)
}

// TestHeardAtOnce: if everything is heard at once, until is always 0, and nothing is dropped as long as no more than size wait.
func TestHeardAtOnce(t *testing.T) {
	r := newAsker(t, 3, 1, 9)
	for i := range 50 {
		for k := range i%3 + 1 {
			r.put(fmt.Sprint(i, k), "")
			r.state(k+1, 0, 0, 0)
		}
		for k := range i%3 + 1 {
			r.head(0, fmt.Sprint(i, k))
			r.done(api.OK)
			r.state(i%3-k, 0, 0, 0)
		}
	}
}

// goThrough puts two of a kind through a queue of one place.
func goThrough[T any](t *testing.T, same func(a, b T) bool, first, second T) {
	t.Helper()
	var none T
	q := newQueue[T](t, 1, 1, 1)
	if x, ok := q.Head(0); !same(x, none) || ok {
		t.Errorf("Q3: %T: Head of an empty queue: %v, %v", none, x, ok)
	}
	if x, ok := q.Put(first); !same(x, none) || ok {
		t.Errorf("Q2: %T: Put: %v, %v", none, x, ok)
	}
	if x, ok := q.Put(second); !same(x, first) || !ok {
		t.Errorf("Q2: %T: Put of a second: %v, %v", none, x, ok)
	}
	if x, ok := q.Head(0); !same(x, second) || !ok {
		t.Errorf("Q3: %T: Head: %v, %v", none, x, ok)
	}
	for x := range q.All() {
		if !same(x, second) {
			t.Errorf("Q5: %T: All: %v", none, x)
		}
	}
	q.Failed(0)
	if x, ok := q.Head(0); !same(x, none) || ok {
		t.Errorf("Q3: %T: Head ahead of until: %v, %v", none, x, ok)
	}
	q.Done()
	if got := stateOf(q); got != [4]int{0, 0, 0, 1} {
		t.Errorf("Q5: %T: State: %v", none, got)
	}
}

func equal[T comparable](a, b T) bool { return a == b }

func TestTypes(t *testing.T) {
	goThrough(t, equal, 1, 2)
	goThrough(t, equal, "a", "b")
	goThrough(t, equal, true, false)
	goThrough(t, equal, 0.5, math.Inf(1))
	goThrough(t, equal, [2]int{1, 2}, [2]int{3, 4})
	goThrough(t, equal, struct{}{}, struct{}{})
	goThrough(t, equal, api.Attempt{ID: 1, Key: "k"}, api.Attempt{ID: 2})
	goThrough(t, equal, new(int), nil)
	goThrough[error](t, equal, api.ErrArg, nil)
	goThrough[any](t, equal, "a", 2)
	goThrough(t, slices.Equal, []byte("ab"), []byte("c"))
	goThrough(t, func(a, b func() int) bool { return (a == nil) == (b == nil) && (a == nil || a() == b()) }, func() int { return 1 }, func() int { return 2 })
	goThrough(t, func(a, b *Queue[int]) bool { return a == b }, newQueue(t, 1, 1, 1, 1), newQueue(t, 2, 2, 2, 2))
	goThrough(t, func(a, b any) bool { return fmt.Sprint(a) == fmt.Sprint(b) }, any([]int{1}), any(map[string]int{"a": 1}))
}

// TestGoneIsForgotten: what was heard or dropped is kept no longer.
func TestGoneIsForgotten(t *testing.T) {
	type thing struct{ next *thing }
	q := newQueue[*thing](t, 3, 1, 1)
	var seen []weak.Pointer[thing]
	for i := range 12 {
		x := &thing{}
		seen = append(seen, weak.Make(x))
		q.Put(x)
		if i%4 == 3 {
			q.Done()
		}
	}
	runtime.GC()
	waits, _, _, _ := q.State()
	for i, x := range seen {
		if there, want := x.Value() != nil, i >= len(seen)-waits; there != want {
			t.Errorf("Q2, Q4: thing %d of %d, of which %d wait: kept %v, want %v", i, len(seen), waits, there, want)
		}
	}
	runtime.KeepAlive(q)
}

// TestManyAtOnce: queues have nothing to do with one another, also when they are used at the same time (P4).
func TestManyAtOnce(t *testing.T) {
	for i := range 8 {
		t.Run(fmt.Sprint(i), func(t *testing.T) {
			t.Parallel()
			p := newPair(t, 2+i, 3, 10)
			for k := range 60 {
				p.put(fmt.Sprint(k))
				p.failed(k)
				p.heads()
				if k%3 == i%3 {
					p.done()
				}
			}
			p.beginning()
		})
	}
}
