package quorum

import (
	"fmt"
	"hash/fnv"
	"math/rand"
	"slices"
	"testing"

	"tocsin/api"
	"tocsin/disk"
)

// A town is three nodes on disks of their own, all letters that they told, and what was ever seen of them.
type town struct {
	testing.TB
	rnd     *rand.Rand
	disks   [3]*disk.Disk
	nodes   [3]*Node
	told    [3]int // how many entries a node told as agreed on since it was opened
	post    []api.Letter
	leaders map[int]int       // by their terms
	logs    map[[2]int]uint64 // of a place and a term there: a sum of all up to there
	agreed  []api.Entry       // what was ever told as agreed on
	since   []int             // of each of these: the term of who told it first
	wrote   []string          // what was proposed
	falls   int
}

func newTown(t testing.TB, seed int64, blocks int) *town {
	w := &town{TB: t, rnd: rand.New(rand.NewSource(seed)), leaders: map[int]int{}, logs: map[[2]int]uint64{}}
	for i := range w.nodes {
		w.disks[i] = formatted(t, blocks)
		w.open(i)
	}
	return w
}

func (w *town) open(i int) {
	w.Helper()
	w.disks[i].Restart()
	n, errno := Open(i, w.disks[i])
	if n == nil || errno != api.OK {
		w.Fatalf("A1: Open(%d) behind a fall: error %d", i, errno)
	}
	w.nodes[i], w.told[i] = n, 0
	w.look(i)
}

// look is behind each call: it takes the letters of a node into the post, and wants that nothing it tells goes against what was seen.
func (w *town) look(i int) {
	w.Helper()
	n := w.nodes[i]
	w.post = append(w.post, n.Letters()...)
	leader, term := n.Leader()
	if leader == i {
		w.lookAtLeader(i, term)
	}
	w.lookAtLog(i)
	for _, e := range n.Agreed() {
		place := w.told[i]
		w.told[i]++
		if place == len(w.agreed) {
			w.agreed = append(w.agreed, e)
			w.since = append(w.since, term)
		}
		if !sameLogs([]api.Entry{e}, w.agreed[place:place+1]) {
			w.Fatalf("A11: the node %d tells %s as agreed on at %d; it was %s", i, shownLog([]api.Entry{e}), place+1, shownLog(w.agreed[place:place+1]))
		}
		w.since[place] = min(w.since[place], term)
	}
}

func (w *town) lookAtLeader(i, term int) {
	w.Helper()
	if was, ok := w.leaders[term]; ok && was != i {
		w.Fatalf("A9: %d and %d lead in the term %d", was, i, term)
	}
	w.leaders[term] = i
	log := w.nodes[i].Log()
	for place, e := range w.agreed {
		if w.since[place] < term && (place >= len(log) || !sameLogs(log[place:place+1], []api.Entry{e})) {
			w.Fatalf("A11: the node %d leads in the term %d, and has not what was agreed on at %d in the term %d", i, term, place+1, w.since[place])
		}
	}
}

func (w *town) lookAtLog(i int) {
	w.Helper()
	h := fnv.New64a()
	for place, e := range w.nodes[i].Log() {
		fmt.Fprintf(h, "%d %d %s", e.Term, len(e.Data), e.Data)
		at := [2]int{place, e.Term}
		if sum, ok := w.logs[at]; ok && sum != h.Sum64() {
			w.Fatalf("A10: of two logs with an entry of the term %d at %d one is %s", e.Term, place+1, shownLog(w.nodes[i].Log()[:place+1]))
		}
		w.logs[at] = h.Sum64()
	}
}

func (w *town) tick(i int) {
	w.Helper()
	if errno := w.nodes[i].Tick(); errno != api.OK && errno != api.ErrDead {
		w.Fatalf("A2: Tick: error %d", errno)
	}
	w.look(i)
}

// hand hands a letter to whom it is for. Of what one of the three told none may not be.
func (w *town) hand(l api.Letter) {
	w.Helper()
	if errno := w.nodes[l.To].Hear(copyOf(l)); errno != api.OK && errno != api.ErrDead {
		w.Fatalf("A3: Hear %s, which was told: error %d", shown(l), errno)
	}
	w.look(l.To)
}

func (w *town) propose(i int) bool {
	w.Helper()
	command := fmt.Sprintf("%d", len(w.wrote))
	_, _, errno := w.nodes[i].Propose([]byte(command))
	if errno == api.OK {
		w.wrote = append(w.wrote, command)
	}
	w.look(i)
	return errno == api.OK
}

// between lets two nodes write one another till they have nothing more to say.
func (w *town) between(i, k int) {
	w.Helper()
	from := max(0, len(w.post)-8)
	for n := 0; from < len(w.post) && n < 400; n++ {
		if l := w.post[from]; l.From != l.To && (l.From == i || l.From == k) && (l.To == i || l.To == k) {
			w.hand(l)
		}
		from++
	}
}

// step does one thing by chance.
func (w *town) step() {
	i := w.rnd.Intn(3)
	if !w.disks[i].Alive() && w.rnd.Intn(3) == 0 {
		w.falls++
		w.open(i)
	}
	switch what := w.rnd.Intn(100); {
	case what < 12:
		for range w.rnd.Intn(15) {
			w.tick(i)
		}
	case what < 20:
		for range 14 { // it stands
			w.tick(i)
		}
		w.between(i, (i+1+w.rnd.Intn(2))%3)
	case what < 60:
		if n := len(w.post); n > 0 {
			w.hand(w.post[n-1-w.rnd.Intn(w.rnd.Intn(min(n, 60))+1)])
		}
	case what < 70:
		w.between(i, (i+1)%3)
	case what < 90:
		for range w.rnd.Intn(4) {
			w.propose(i)
		}
	case what < 94:
		w.disks[i].Fuse(w.rnd.Intn(10), waysToFail()[w.rnd.Intn(len(waysToFail()))])
	case what < 97:
		w.disks[i].Crash(waysToFail()[w.rnd.Intn(len(waysToFail()))])
	case what < 98:
		w.open(i)
	}
	if len(w.post) > 4000 { // the oldest come never
		w.post = slices.Clone(w.post[3000:])
	}
}

// heal is the time when all goes well.
func (w *town) heal() {
	for i := range w.nodes {
		if !w.disks[i].Alive() {
			w.open(i)
		}
		w.disks[i].Restart() // without a fuse
	}
	w.post = nil
}

// tickAll is a tick of all; all letters of it arrive, and those that are told because of them, in any order.
func (w *town) tickAll() {
	w.Helper()
	for _, i := range w.rnd.Perm(3) {
		w.tick(i)
	}
	for len(w.post) > 0 {
		k := w.rnd.Intn(len(w.post))
		l := w.post[k]
		w.post = slices.Delete(w.post, k, k+1)
		w.hand(l)
	}
}

// leader is who leads, if one does, and the others know; else -1.
func (w *town) leader() int {
	first, term := w.nodes[0].Leader()
	for _, n := range w.nodes {
		if id, now := n.Leader(); id != first || now != term {
			return -1
		}
	}
	return first
}

// endsWell wants that within a hundred ticks one leads, and that a command that it takes is agreed on by all.
func (w *town) endsWell(what string) {
	w.Helper()
	w.heal()
	taken := -1
	for range 100 {
		w.tickAll()
		if id := w.leader(); taken < 0 && id >= 0 && w.propose(id) {
			taken = len(w.nodes[id].Log())
		}
	}
	if taken < 0 {
		w.Fatalf("A12: %s: nobody leads, or takes a command", what)
	}
	for i := range w.nodes {
		if w.told[i] < taken || string(w.agreed[taken-1].Data) != w.wrote[len(w.wrote)-1] {
			w.Fatalf("A12: %s: the node %d has told %d as agreed on, want %d", what, i, w.told[i], taken)
		}
	}
}

// TestThreeNodes: whatever is lost, doubled or late, and whoever falls: one leader, logs that match, and what is agreed on stays; and in the end, if all goes well, it goes on.
func TestThreeNodes(t *testing.T) { // A9 to A12
	t.Parallel()
	for _, blocks := range []int{8, 16, 40, 1000} {
		for part := range int64(4) {
			t.Run(fmt.Sprint(blocks, "/", part), func(t *testing.T) {
				t.Parallel()
				var led, agreed, falls int
				for seed := range int64(40) {
					w := newTown(t, 1000*int64(blocks)+100*part+seed, blocks)
					for range 400 {
						w.step()
					}
					led, agreed, falls = led+len(w.leaders), agreed+len(w.agreed), falls+w.falls
					if blocks == 1000 && len(w.agreed) < 300 {
						w.endsWell("behind what was")
					}
				}
				t.Logf("%d terms had a leader, %d entries were agreed on, %d falls", led, agreed, falls)
				if led < 400 || agreed < 400 || falls < 400 {
					t.Error("too little has happened")
				}
			})
		}
	}
}

// TestThreeNewNodesAgree: in the end, with nothing behind them, whoever is late.
func TestThreeNewNodesAgree(t *testing.T) { // A12
	for seed := range int64(200) {
		w := newTown(t, seed, 1000)
		for i := range w.nodes {
			for range w.rnd.Intn(30) {
				w.tick(i)
			}
		}
		w.endsWell("new nodes")
	}
}

// TestAnyThreeLogsAgree: logs of which one is behind the others, or has what the others have not, come together.
func TestAnyThreeLogsAgree(t *testing.T) { // A12
	logs := []string{"", "1", "1 1", "1 1 2", "1 1 2 3", "1 1 1", "1 1 1 1 1 1 1 1 1 1 1 1 1 1 1 1 1 1 1 1 1", "1 1 2 2 2 2 2 2 2 2 2 2 2 2 2 2"}
	for a := range logs {
		for b := range logs {
			for c := range logs {
				w := newTown(t, int64(a), 1000)
				for i, log := range []string{logs[a], logs[b], logs[c]} {
					lay(t, w.disks[i], said(3+i, -1, log))
					w.open(i)
				}
				w.endsWell(fmt.Sprintf("%q, %q, %q", logs[a], logs[b], logs[c]))
			}
		}
	}
}

// TestOneHouseIsAway: two are enough.
func TestOneHouseIsAway(t *testing.T) { // P12
	for away := range 3 {
		w := newTown(t, int64(away), 1000)
		for range 60 {
			for i := range w.nodes {
				if i != away {
					w.tick(i)
				}
			}
			for len(w.post) > 0 {
				l := w.post[0]
				w.post = w.post[1:]
				if l.To != away {
					w.hand(l)
				}
			}
		}
		leads := (away + 1) % 3
		if id, _ := w.nodes[leads].Leader(); id != leads {
			leads = (away + 2) % 3
		}
		before := len(w.agreed)
		if !w.propose(leads) {
			t.Fatalf("P12: without %d the node %d takes no command", away, leads)
		}
		for len(w.post) > 0 {
			l := w.post[0]
			w.post = w.post[1:]
			if l.To != away {
				w.hand(l)
			}
		}
		if len(w.agreed) != before+1 {
			t.Errorf("P12: without %d the command is not agreed on", away)
		}
	}
}

// TestALongLog: up to the last place, with one that comes late to all of it.
func TestALongLog(t *testing.T) { // A7, A11, A12
	w := newTown(t, 1, 4096)
	for range 20 {
		w.tickAll()
	}
	late := 2 - w.leader()/2
	id := w.leader()
	for range 3000 {
		if len(w.nodes[id].Log()) < 400 {
			w.propose(id)
		}
		w.tick(id)
		for len(w.post) > 0 {
			l := w.post[0]
			w.post = w.post[1:]
			if l.From != late && l.To != late {
				w.hand(l)
			}
		}
	}
	if w.propose(id) || len(w.nodes[id].Log()) != 400 || w.told[id] != 400 {
		t.Fatalf("A7: %d entries, %d agreed on", len(w.nodes[id].Log()), w.told[id])
	}
	for range 300 {
		w.tickAll()
	}
	for i := range w.nodes {
		if w.told[i] != 400 {
			t.Errorf("A12: the node %d has told %d", i, w.told[i])
		}
	}
}
