package server

import (
	"fmt"
	"math/rand"
	"strings"
	"testing"

	"tocsin/api"
	"tocsin/disk"
	"tocsin/engine"
	"tocsin/jsonval"
)

// A pair is a server and its model, which are handed the same.
type pair struct {
	testing.TB
	disk   *disk.Disk
	server *Server
	model  *model
	since  *disk.Disk // the disk when it was formatted
}

func newPair(t testing.TB, blocks int) *pair {
	d := formatted(t, blocks)
	return &pair{TB: t, disk: d, server: opened(t, d), model: newModel(blocks), since: d.Copy()}
}

// do wants that both answer the same, and have asked the disk as often.
func (p *pair) do(command string) {
	p.Helper()
	got, want := string(p.server.Do([]byte(command))), p.model.do(command)
	if got != want {
		p.Fatalf("V3: %s:\n%s, want\n%s", command, got, want)
	}
	if writes, syncs := spent(p.disk, p.since); writes != p.model.writes || syncs != p.model.syncs {
		p.Fatalf("V3: %s: %d writes and %d syncs so far, want %d and %d", command, writes, syncs, p.model.writes, p.model.syncs)
	}
	if string(p.server.engine.Save()) != string(p.model.engine.Save()) {
		p.Fatalf("V3: %s: what is known is another", command)
	}
}

// reopen goes on with another server on the same disk.
func (p *pair) reopen() {
	p.Helper()
	same(p, "V5: Close", p.server.Close(), api.OK)
	p.server = opened(p, p.disk)
}

func TestRowsByChance(t *testing.T) { // V3, V4, P9
	var smaller, refused int
	for _, blocks := range []int{8, 13, 20, 30, 40, 61, 80, 120, 400} {
		for seed := range int64(12) {
			p := newPair(t, blocks)
			r := rand.New(rand.NewSource(seed))
			for _, command := range rowOf(100*int64(blocks)+seed, 80) {
				p.do(command)
				if r.Intn(20) == 0 {
					p.reopen()
				}
			}
			smaller, refused = smaller+p.model.smaller, refused+p.model.refused
		}
	}
	if smaller < 100 || refused < 100 {
		t.Errorf("too little has happened: made small %d times, no room %d times", smaller, refused)
	}
}

func TestALongRow(t *testing.T) { // V3, P9: what was is known behind many generations
	p := newPair(t, 800)
	for i, command := range rowOf(7, 3000) {
		p.do(command)
		if i%500 == 0 {
			p.reopen()
		}
	}
	if p.model.smaller < 3 {
		t.Errorf("the journal was made small %d times", p.model.smaller)
	}
}

func TestRunIsDoLineByLine(t *testing.T) { // V4
	for seed := range int64(10) {
		row := rowOf(seed, 60)
		d, like := formatted(t, 60), formatted(t, 60)
		s, u := opened(t, d), opened(t, like)
		var want strings.Builder
		for _, command := range row {
			want.Write(u.Do([]byte(command)))
			want.WriteByte('\n')
		}
		same(t, "V4: Run", s.Run(strings.Join(row, "\n")+"\n"), want.String())
		alike(t, "V4: Run", d, like)
	}
}

func TestTheSameCommandsGiveTheSameAnswers(t *testing.T) { // P4, and two servers by turns
	for seed := range int64(10) {
		row, other := rowOf(seed, 60), rowOf(seed+50, 60)
		d, like, third := formatted(t, 40), formatted(t, 40), formatted(t, 40)
		s, u, v := opened(t, d), opened(t, like), opened(t, third)
		var alone []string
		for _, command := range row {
			alone = append(alone, string(s.Do([]byte(command))))
		}
		for i, command := range row {
			wants(t, "P4", u, command, alone[i])
			v.Do([]byte(other[i]))
		}
		v.Close()
		third.Crash(api.Crash{})
		alike(t, "P4", d, like)
		wants(t, "P4", u, "x", wrongAt(0, 20))
	}
}

// A history is a fresh engine that does what lasts.
type history struct {
	engine *engine.Engine
}

// holds wants that the answer of a server to a command, but 41 and 51, is the engine's, which does it then.
func (h *history) holds(t testing.TB, what, command, answer string) {
	t.Helper()
	if answer == full {
		return
	}
	v, err := jsonval.Parse([]byte(command))
	if err != nil {
		return
	}
	if want := h.engine.Do(v).Print(); answer != want {
		t.Fatalf("%s: %s:\n%s, want\n%s", what, command, answer, want)
	}
}

func (h *history) saved() string { return string(h.engine.Save()) }

// loadedFrom is the history behind which this was saved.
func loadedFrom(t testing.TB, saved string) *history {
	t.Helper()
	e, errno := engine.Load([]byte(saved))
	if errno != api.OK {
		t.Fatalf("E11: Load: error %d", errno)
	}
	return &history{e}
}

// behind is what there would be behind one command more.
func (h *history) behind(t testing.TB, command string) *history {
	t.Helper()
	more := loadedFrom(t, h.saved())
	if changes(command) {
		more.engine.Do(value(command))
	}
	return more
}

// goOn hands commands to a server, up to the first that is answered by 41: how many those ahead of it are.
func (h *history) goOn(t testing.TB, what string, s *Server, row []string) int {
	t.Helper()
	for i, command := range row {
		answer := string(s.Do([]byte(command)))
		if answer == dead {
			return i
		}
		h.holds(t, what, command, answer)
	}
	return len(row)
}

// settle opens a disk behind a fall: what is found there is the history, or has one command more.
func (h *history) settle(t testing.TB, what string, d *disk.Disk, midst string) (*Server, *history, bool) {
	t.Helper()
	d.Restart()
	s := opened(t, d)
	got := string(s.engine.Save())
	if got == h.saved() {
		return s, h, false
	}
	more := h.behind(t, midst)
	if got != more.saved() {
		t.Fatalf("V6, P8: %s: it knows\n%q, want\n%q, or\n%q", what, got, h.saved(), more.saved())
	}
	return s, more, true
}

// A course is what becomes of a row of commands, if the power does not fail.
type course struct {
	blocks  int
	row     []string
	answers []string
	saved   []string // what is known behind so many of them
	writes  []int    // of each
}

func courseOf(blocks int, row []string) course {
	m := newModel(blocks)
	c := course{blocks: blocks, row: row, saved: []string{savedBehind()}}
	for _, command := range row {
		ahead := m.writes
		c.answers = append(c.answers, m.do(command))
		c.saved = append(c.saved, string(m.engine.Save()))
		c.writes = append(c.writes, m.writes-ahead)
	}
	return c
}

// failIn lets the power fail in the midst of the i-th command, or a few behind it, and goes on behind that: is one there that was not answered?
func (c course) failIn(t testing.TB, i, writes int, how api.Crash) bool {
	what := fmt.Sprintf("of %d blocks, in the command %d (%s), at %d by %+v", c.blocks, i, c.row[i], writes, how)
	d := formatted(t, c.blocks)
	s := opened(t, d)
	n := 0 // how many were answered otherwise than by 41
	for ; n < len(c.row); n++ {
		if n == i {
			d.Fuse(writes, how)
		}
		answer := string(s.Do([]byte(c.row[n])))
		if answer == dead {
			break
		}
		if answer != c.answers[n] {
			t.Fatalf("V3: %s: %s:\n%s, want\n%s", what, c.row[n], answer, c.answers[n])
		}
	}
	if n < i || n == len(c.row) {
		t.Fatalf("V3: %s: %d are answered", what, n)
	}
	like := d.Copy()
	rest := c.row[n+1 : min(n+6, len(c.row))]
	h := loadedFrom(t, c.saved[n])
	wants(t, "V3: "+what, s, rest[0], dead)
	u, h, more := h.settle(t, what, d, c.row[n])
	wants(t, "V3: "+what, s, rest[0], dead)
	like.Restart()
	alike(t, "V3: one that has fallen writes nothing", d, like)
	h.goOn(t, "P8: "+what, u, rest)
	return more
}

func TestThePowerFailsAtEachCallOfTheDisk(t *testing.T) { // V6, P8
	ways := waysToFail()
	for _, of := range []struct {
		blocks int
		seed   int64
	}{{20, 2}, {40, 3}, {40, 11}, {60, 12}, {120, 13}} {
		t.Run(fmt.Sprint(of.blocks, "/", of.seed), func(t *testing.T) {
			t.Parallel()
			c := courseOf(of.blocks, append(rowOf(of.seed, 26), tick(1000), tick(1001), countsOf("@a:home"), tick(1002)))
			found := map[bool]int{}
			for i := range c.row[:26] {
				for writes := range c.writes[i] + 1 {
					for way := (i + writes) % 3; way < len(ways); way += 3 {
						found[c.failIn(t, i, writes, ways[way])]++
					}
				}
			}
			if found[true] == 0 || found[false] == 0 {
				t.Errorf("too little has happened: %v", found)
			}
		})
	}
}

func TestThePowerFailsBetweenTwoCommands(t *testing.T) { // V6, P8
	for seed := range int64(6) {
		row := rowOf(seed, 40)
		for i := range row {
			d := formatted(t, 60)
			s, h := opened(t, d), &history{engine.New()}
			h.goOn(t, "V3", s, row[:i])
			d.Crash(waysToFail()[i%len(waysToFail())])
			for _, command := range row[i:] {
				wants(t, "V3", s, command, dead)
			}
			u, h, more := h.settle(t, "between two commands", d, row[i])
			same(t, "V6: a command that was never begun is done", more, false)
			h.goOn(t, "P8", u, row[i:])
		}
	}
}

// outlive hands a row to servers on a disk whose power fails again and again: how often nothing, and how often one command more, was there then.
func outlive(t testing.TB, blocks int, seed int64) (none, some int) {
	r := rand.New(rand.NewSource(seed))
	row := rowOf(1000+seed, 80)
	d := formatted(t, blocks)
	s, h, more := opened(t, d), &history{engine.New()}, false
	for len(row) > 0 {
		d.Fuse(r.Intn(30), one(r, waysToFail()...))
		next := row[:min(len(row), 1+r.Intn(12))]
		n := h.goOn(t, "P8", s, next)
		if d.Alive() != (n == len(next)) {
			t.Fatalf("V3: %d of %d are answered, alive: %t", n, len(next), d.Alive())
		}
		row = row[n:]
		if d.Alive() {
			continue
		}
		if s, h, more = h.settle(t, "again and again", d, row[0]); more {
			some++
		} else {
			none++
		}
		if r.Intn(2) == 0 { // else whoever was not answered asks again
			row = row[1:]
		}
	}
	return none, some
}

func TestThePowerFailsAgainAndAgain(t *testing.T) { // P8
	var none, some int
	for _, blocks := range []int{20, 40, 60, 120} {
		for seed := range int64(25) {
			n, s := outlive(t, blocks, seed)
			none, some = none+n, some+s
		}
	}
	if none < 20 || some < 20 {
		t.Errorf("too little has happened: nothing was there %d times, one command more %d times", none, some)
	}
}

func TestAServerOnACopyOfTheDisk(t *testing.T) { // V7, P9
	for _, blocks := range []int{20, 40, 60, 120} {
		for seed := range int64(5) {
			d := formatted(t, blocks)
			s := opened(t, d)
			var others []*Server
			for _, command := range rowOf(2000+seed, 50) {
				others = append(others, opened(t, d.Copy()))
				answer := string(s.Do([]byte(command)))
				for _, u := range others {
					if got := string(u.Do([]byte(command))); got != answer {
						t.Fatalf("V7: %s:\n%s, want\n%s", command, got, answer)
					}
				}
			}
			for _, u := range others {
				same(t, "V7: what is known", string(u.engine.Save()), string(s.engine.Save()))
			}
		}
	}
}

func TestACopyHasNothingToDoWithTheFirst(t *testing.T) { // V7, P4
	d := formatted(t, 60)
	s := opened(t, d)
	does(t, s, tick(5))
	like := d.Copy()
	u := opened(t, like)
	does(t, u, tick(9))
	wants(t, "V7", s, tick(6), ticked)
	d.Crash(api.Crash{})
	wants(t, "V7: the other one has not fallen", u, tick(9), ticked)
	same(t, "V5: Close", s.Close(), api.OK)
	wants(t, "V7: nor was it closed", u, tick(9), ticked)
}

func TestMadeSmallOrNot(t *testing.T) { // P9
	var smaller int
	for _, blocks := range []int{20, 30, 40, 60} {
		for seed := range int64(8) {
			r := rand.New(rand.NewSource(seed))
			p := newPair(t, blocks)
			great := opened(t, formatted(t, 2000)) // is never made small
			for _, command := range rowOf(3000+seed, 80) {
				answer := string(p.server.Do([]byte(command)))
				if p.model.do(command); answer != full {
					wants(t, "P9", great, command, answer)
				}
				if r.Intn(5) == 0 {
					p.reopen()
				}
			}
			smaller += p.model.smaller
		}
	}
	if smaller < 50 {
		t.Errorf("too little has happened: made small %d times", smaller)
	}
}
