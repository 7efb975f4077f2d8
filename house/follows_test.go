package house

import (
	"fmt"
	"math/rand"
	"slices"
	"strings"
	"testing"

	"tocsin/api"
	"tocsin/disk"
)

// A question is a request that somebody asked: its order stands at most once among all, since no two are alike.
type question struct {
	order string
	after int // how many orders had been answered to somebody, when it was asked
}

// A town is three houses on disks of their own, their clients, all letters that they told, and what was ever seen of them.
type town struct {
	testing.TB
	*asker
	disks   [3]*disk.Disk
	houses  [3]*House
	conns   [3]int
	asked   [3][]question // over the connection of each house, not answered yet
	post    []api.Letter
	orders  []string // what was ever agreed on
	replies []string // what one machine answers to these
	place   map[string]int
	machine *plainMachine
	told    int // the last place whose answer somebody got
	undone  []string
	falls   int
	results map[string]int
}

func newTown(t testing.TB, seed int64) *town {
	w := &town{TB: t, asker: newAsker(rand.New(rand.NewSource(seed))), place: map[string]int{}, machine: newPlainMachine(), results: map[string]int{}}
	for i := range w.houses {
		w.disks[i] = formatted(t, 4096)
		w.open(i)
	}
	return w
}

// open opens a house anew; its clients come again.
func (w *town) open(i int) {
	w.Helper()
	w.disks[i].Restart()
	w.houses[i] = opened(w, i, w.disks[i])
	w.connect(i)
}

func (w *town) connect(i int) {
	w.Helper()
	w.houses[i].Hangup(w.conns[i])
	conn, errno := w.houses[i].Connect()
	same(w, "M2: Connect", errno, api.OK)
	w.conns[i], w.asked[i] = conn, nil
	w.look(i)
}

// look is behind each call: it takes the letters and the answers of a house, and wants that nothing of it goes against what was seen.
func (w *town) look(i int) {
	w.Helper()
	h := w.houses[i]
	w.post = append(w.post, h.Letters()...)
	orders := h.Orders()
	both := min(len(orders), len(w.orders))
	if !slices.Equal(orders[:both], w.orders[:both]) {
		w.Fatalf("M8: the house %d did %q, another one %q", i, orders[:both], w.orders[:both])
	}
	for _, order := range orders[both:] {
		w.orders = append(w.orders, order)
		r, ok := w.machine.do(order)
		w.replies = append(w.replies, "")
		if ok {
			w.replies[len(w.replies)-1] = r.print(false)
			if w.place[order] != 0 {
				w.Fatalf("P11: %s was done twice, and asked for once", order)
			}
			w.place[order] = len(w.orders)
		}
	}
	b, ends, errno := h.Out(w.conns[i])
	if ends || errno != api.OK {
		w.Fatalf("M4: Out: %t, error %d", ends, errno)
	}
	w.learn(b)
	w.lookAtAnswers(i, string(b))
}

// lookAtAnswers wants that each answer is that of the one machine, or says that there is none.
func (w *town) lookAtAnswers(i int, s string) {
	w.Helper()
	for len(s) > 0 {
		end := len(s)
		if next := strings.Index(s[1:], "HTTP/1.1 "); next >= 0 {
			end = next + 1
		}
		one := s[:end]
		s = s[end:]
		q := w.asked[i][0]
		w.asked[i] = w.asked[i][1:]
		result := read(w, []byte(one))[0]
		place := w.place[q.order]
		switch {
		case strings.HasPrefix(result, failed(503, 210)) || strings.HasPrefix(result, failed(503, 211)):
			w.undone = append(w.undone, q.order)
		case result == failed(503, 41): // nobody knows
		case place == 0:
			w.Fatalf("M9: %s is answered by %s, and was not done", q.order, result)
		case w.replies[place-1] != one:
			w.Fatalf("M9: %s at %d is answered by %q, want %q", q.order, place, one, w.replies[place-1])
		case place <= q.after:
			w.Fatalf("P11: %s stands at %d, and was asked for when the one at %d had been answered", q.order, place, q.after)
		default:
			w.told = max(w.told, place)
		}
		w.results[result[:min(len(result), 17)]]++
	}
}

// ask lets the client of a house ask for something that nobody has asked for.
func (w *town) ask(i int) {
	w.Helper()
	w.events++
	n := w.events
	user := w.one(anna, bea)
	token := w.tokenOf(user)
	var method, target, body string
	switch w.rnd.Intn(8) {
	case 0:
		user = w.one(anna, bea, clock)
		method, target, token, body = "POST", "/v1/login", "", fmt.Sprintf(`{"n":%d,"proof":"%s","user":"%s"}`, n, proofOf(user), user)
	case 1:
		method, target, body = "PUT", "/v1/events", member(fmt.Sprint("$", n), "!r:home", user, "join")
	case 2, 3:
		method, target, body = "PUT", "/v1/events", message(fmt.Sprint("$", n), "!r:home", user, "hello b")
	case 4:
		method, target, body = "GET", "/v1/feed?since="+w.one(w.places...), fmt.Sprint(n)
	case 5, 6:
		method, target, token, body = "POST", "/v1/tick", w.tokenOf(clock), fmt.Sprint(n)
	default:
		method, target = "GET", "/v1/"+disguised("counts", n%64)+"?room="+disguised("!r:home", n/64)
	}
	w.asked[i] = append(w.asked[i], question{ordered(method, target, token, body), w.told})
	if errno := w.houses[i].Bytes(w.conns[i], []byte(asking(method, target, token, body))); errno != api.OK {
		w.Fatalf("M3: Bytes: error %d", errno)
	}
	w.look(i)
}

// disguised is a text of which some signs are escaped, as the bits of a number say.
func disguised(s string, bits int) string {
	var b strings.Builder
	for i := range len(s) {
		if bits>>i&1 == 1 {
			fmt.Fprintf(&b, "%%%X", s[i])
		} else {
			b.WriteByte(s[i])
		}
	}
	return b.String()
}

func (w *town) tick(i int) {
	w.Helper()
	if errno := w.houses[i].Tick(); errno != api.OK && errno != api.ErrDead {
		w.Fatalf("M6: Tick: error %d", errno)
	}
	w.look(i)
}

// hand hands a letter to whom it is for. Of what one of the three told none may not be.
func (w *town) hand(l api.Letter) {
	w.Helper()
	if errno := w.houses[l.To].Hear(l); errno != api.OK && errno != api.ErrDead {
		w.Fatalf("M5: Hear %+v, which was told: error %d", l, errno)
	}
	w.look(l.To)
}

// deliver hands out all that is in the post and comes because of it, but for letters from and to one house (-1: none).
func (w *town) deliver(away int) {
	w.Helper()
	for len(w.post) > 0 {
		l := w.post[0]
		w.post = w.post[1:]
		if l.From != away && l.To != away {
			w.hand(l)
		}
	}
}

func (w *town) leader() int {
	for i, h := range w.houses {
		if h.Leads() {
			return i
		}
	}
	return w.rnd.Intn(3)
}

// step does one thing by chance.
func (w *town) step() {
	i := w.rnd.Intn(3)
	if !w.disks[i].Alive() && w.chance(40) {
		w.falls++
		w.open(i)
	}
	switch what := w.rnd.Intn(100); {
	case what < 30:
		for range 1 + w.rnd.Intn(3) {
			w.ask(w.leader())
		}
	case what < 34:
		w.ask(i)
	case what < 50:
		w.tick(i)
	case what < 54:
		for range 14 { // it stands
			w.tick(i)
		}
	case what < 70: // one of the latest letters, perhaps once more
		if n := len(w.post); n > 0 {
			w.hand(w.post[n-1-w.rnd.Intn(w.rnd.Intn(min(n, 60))+1)])
		}
	case what < 90: // many come, and some do not
		from := max(0, len(w.post)-10)
		for k := from; k < min(len(w.post), from+60); k++ {
			if w.chance(90) {
				w.hand(w.post[k])
			}
		}
		w.post = w.post[:from]
	case what < 92:
		w.connect(i)
	case what < 94:
		w.disks[i].Fuse(w.rnd.Intn(10), waysToFail()[w.rnd.Intn(len(waysToFail()))])
	case what < 95:
		w.disks[i].Crash(waysToFail()[w.rnd.Intn(len(waysToFail()))])
	case what < 96:
		w.open(i)
	}
	if len(w.post) > 4000 { // the oldest come never
		w.post = slices.Clone(w.post[3000:])
	}
}

// endsWell wants that two houses that write one another are enough: one comes to lead, and answers.
func (w *town) endsWell(away int) {
	w.Helper()
	for i := range w.houses {
		if !w.disks[i].Alive() {
			w.open(i)
		}
		w.disks[i].Restart() // without a fuse
	}
	w.post = nil
	for range 100 {
		for i := range w.houses {
			if i != away {
				w.tick(i)
			}
		}
		w.deliver(away)
	}
	leads := -1
	for i, h := range w.houses {
		if i != away && h.Leads() {
			leads = i
		}
	}
	if leads < 0 {
		w.Fatalf("M10, P12: without %d nobody leads", away)
	}
	w.connect(leads)
	for range 5 {
		had := len(w.orders)
		w.ask(leads)
		w.deliver(away)
		if len(w.asked[leads]) != 0 || len(w.orders) != had+1 {
			w.Fatalf("M10, P12: without %d the house %d, which leads, answers not: %d orders, %d wait", away, leads, len(w.orders)-had, len(w.asked[leads]))
		}
	}
}

// undoneStays wants that what was said not to be done was never done.
func (w *town) undoneStays() {
	w.Helper()
	for _, order := range w.undone {
		if w.place[order] != 0 {
			w.Fatalf("P11: %s was said not to be done, and stands at %d", order, w.place[order])
		}
	}
}

// TestThreeHouses: whatever is lost, doubled or late, and whoever falls: all houses do the same, and each answer is that of one machine; and if two go on, they go on.
func TestThreeHouses(t *testing.T) { // M8 to M10, P11, P12
	t.Parallel()
	for part := range int64(6) {
		t.Run(fmt.Sprint(part), func(t *testing.T) {
			t.Parallel()
			results := map[string]int{}
			orders, falls := 0, 0
			for seed := range int64(15) {
				w := newTown(t, 1000*part+seed)
				for range 500 {
					w.step()
				}
				if len(w.orders) < 300 {
					w.endsWell(int(seed % 4)) // 3: all live
				}
				w.undoneStays()
				for result, n := range w.results {
					results[result] += n
				}
				orders, falls = orders+len(w.orders), falls+w.falls
			}
			t.Logf("%d orders, %d falls, answers: %v", orders, falls, results)
			for _, result := range []string{`200 {"ok":true,"p`, `200 {"ok":true,"t`, `200 {"changed":[]`, `200 {"changed":[{`, `200 {"highlight":`, `200 {"attempts":[`, failed(503, 210), failed(503, 211), failed(503, 41), failed(401, 170)} {
				if results[result] == 0 {
					t.Errorf("no answer was %s", result)
				}
			}
			if orders < 1000 || falls < 100 {
				t.Error("too little has happened")
			}
		})
	}
}

// TestTwoNewHouses: with nothing behind them, whoever is away, and whoever is late.
func TestTwoNewHouses(t *testing.T) { // M10, P12
	for seed := range int64(60) {
		w := newTown(t, seed)
		for i := range w.houses {
			for range w.rnd.Intn(30) {
				w.tick(i)
			}
		}
		w.endsWell(int(seed % 4))
		w.endsWell(int((seed + 1) % 4)) // another one is away then
		w.endsWell(3)
		w.undoneStays()
		for i, h := range w.houses { // all have all of it, but for what the last letters said
			if len(h.Orders()) < len(w.orders)-5 {
				t.Errorf("M8: the house %d did %d orders of %d", i, len(h.Orders()), len(w.orders))
			}
		}
	}
}

// TestAllFall: at once, again and again; nothing that was answered is lost.
func TestAllFall(t *testing.T) { // M8, M9, P11
	for seed := range int64(10) {
		w := newTown(t, seed)
		for range 6 {
			w.endsWell(3)
			for range 10 {
				w.ask(w.leader())
			}
			if w.chance(50) {
				w.deliver(-1)
			}
			for i := range w.houses {
				w.disks[i].Crash(waysToFail()[w.rnd.Intn(len(waysToFail()))])
				same(t, "M6: Tick of a house that fell", w.houses[i].Tick(), api.ErrDead)
			}
			for i := range w.houses {
				w.open(i)
			}
		}
		w.endsWell(3)
		w.undoneStays()
	}
}
