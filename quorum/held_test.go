package quorum

import (
	"fmt"
	"math"
	"math/rand"
	"slices"
	"strings"
	"testing"

	"tocsin/api"
	"tocsin/disk"
	"tocsin/journal"
)

// A pair is a node and its model, each on a disk of its own, which are handed the same.
type pair struct {
	testing.TB
	id    int
	disk  *disk.Disk
	node  *Node
	model *model
	calls []string
	led   int // how often it came to lead
	wrong int // how often it was handed what it refused
	busy  int
	falls int
}

func newPair(t testing.TB, id, blocks int) *pair {
	t.Helper()
	d := formatted(t, blocks)
	p := &pair{TB: t, id: id, disk: d}
	p.open(d.Copy())
	return p
}

// pairOn is a pair on a disk that may be broken: nil, if it is.
func pairOn(t testing.TB, id int, d *disk.Disk) *pair {
	t.Helper()
	p := &pair{TB: t, id: id, disk: d}
	if !p.open(d.Copy()) {
		return nil
	}
	return p
}

// open opens both, and tells whether they could be.
func (p *pair) open(like *disk.Disk) bool {
	p.Helper()
	var got, want api.Errno
	p.node, got = Open(p.id, p.disk)
	p.model, want = openModel(p.id, like)
	if got != want || (p.node == nil) != (want != api.OK) {
		p.fail("A1", "Open", fmt.Sprint(p.node != nil, " ", int(got)), fmt.Sprint(p.model != nil, " ", int(want)))
	}
	if want == api.OK {
		p.hold("Open")
	}
	return want == api.OK
}

func (p *pair) fail(promise, call, got, want string) {
	p.Helper()
	p.Fatalf("%s: node %d: behind\n%s\n%s:\n%s, want\n%s", promise, p.id, strings.Join(p.calls[max(0, len(p.calls)-12):], "\n"), call, got, want)
}

// hold wants that both know the same, and that their disks are alike.
func (p *pair) hold(call string) {
	p.Helper()
	leader, term := p.node.Leader()
	wantLeader, wantTerm := p.model.knows()
	if leader != wantLeader || term != wantTerm {
		p.fail("A8", call, fmt.Sprint(leader, " ", term), fmt.Sprint(wantLeader, " ", wantTerm))
	}
	if got, want := p.node.Log(), p.model.logs(); !sameLogs(got, want) {
		p.fail("A8", call, shownLog(got), shownLog(want))
	}
	p.calls = append(p.calls, call)
	if len(p.calls)%(1+p.disk.Blocks()/20) == 0 { // to look at all of a great disk takes long
		alike(p, fmt.Sprintf("node %d: %s", p.id, call), p.disk, p.model.disk)
	}
}

func (p *pair) tick() {
	p.Helper()
	if got, want := p.node.Tick(), p.model.tick(); got != want {
		p.fail("A2", "Tick", fmt.Sprint(int(got)), fmt.Sprint(int(want)))
	}
	p.hold("Tick")
}

func (p *pair) hear(l api.Letter) {
	p.Helper()
	call := "Hear " + shown(l)
	led, copied := p.model.leads, copyOf(l)
	got, want := p.node.Hear(l), p.model.hear(copyOf(l))
	if got != want {
		p.fail("A3 to A6", call, fmt.Sprint(int(got)), fmt.Sprint(int(want)))
	}
	if !sameLetters([]api.Letter{l}, []api.Letter{copied}) {
		p.fail("P3", call, shown(l), shown(copied))
	}
	for i := range l.Entries { // whose it was may write into it
		for k := range l.Entries[i].Data {
			l.Entries[i].Data[k] ^= 1
		}
		l.Entries[i].Term++
	}
	if want == api.ErrLetter {
		p.wrong++
	}
	if !led && p.model.leads {
		p.led++
	}
	p.hold(call)
}

func (p *pair) propose(command []byte) {
	p.Helper()
	call := fmt.Sprintf("Propose of %d bytes", len(command))
	place, term, errno := p.node.Propose(command)
	wantPlace, wantTerm, want := p.model.propose(command)
	if place != wantPlace || term != wantTerm || errno != want {
		p.fail("A7", call, fmt.Sprint(place, " ", term, " ", int(errno)), fmt.Sprint(wantPlace, " ", wantTerm, " ", int(want)))
	}
	for i := range command {
		command[i] ^= 1
	}
	if want == api.ErrBusy {
		p.busy++
	}
	p.hold(call)
}

// letters gives the model's, which nobody has written into.
func (p *pair) letters() []api.Letter {
	p.Helper()
	got, want := p.node.Letters(), p.model.letters()
	if !sameLetters(got, want) {
		p.fail("A8", "Letters", shownAll(got), shownAll(want))
	}
	out := make([]api.Letter, 0, len(want))
	for _, l := range want {
		out = append(out, copyOf(l))
	}
	spoil(got)
	p.hold("Letters")
	return out
}

func (p *pair) agreed() {
	p.Helper()
	got, want := p.node.Agreed(), p.model.agrees()
	if !sameLogs(got, want) {
		p.fail("A8", "Agreed", shownLog(got), shownLog(want))
	}
	spoil([]api.Letter{{Entries: got}})
	p.hold("Agreed")
}

// fuse lets the power of both fail, in a while.
func (p *pair) fuse(writes int, how api.Crash) {
	p.disk.Fuse(writes, how)
	p.model.disk.Fuse(writes, how)
	p.calls = append(p.calls, fmt.Sprintf("Fuse %d %v", writes, how))
}

func (p *pair) crash(how api.Crash) {
	p.disk.Crash(how)
	p.model.disk.Crash(how)
	p.model.dead = true
	p.hold(fmt.Sprintf("Crash %v", how))
}

// reopen goes on with another node on the same disk, be it that the power has failed or not.
func (p *pair) reopen() {
	p.Helper()
	if !p.disk.Alive() {
		p.falls++
	}
	p.disk.Restart()
	p.model.disk.Restart()
	p.hold("Restart")
	old := *p.model
	if !p.open(p.model.disk) {
		p.fail("A1", "Open", "it is broken", "what lasts")
	}
	p.model.unkept, p.model.small = old.unkept, old.small
}

// copyOf is a letter that shares no memory.
func copyOf(l api.Letter) api.Letter {
	l.Entries = slices.Clone(l.Entries)
	for i := range l.Entries {
		l.Entries[i].Data = slices.Clone(l.Entries[i].Data)
	}
	return l
}

// spoil writes into all that letters have, and into their spare room.
func spoil(letters []api.Letter) {
	letters = letters[:cap(letters)]
	for i := range letters {
		entries := letters[i].Entries[:cap(letters[i].Entries)]
		for k := range entries {
			data := entries[k].Data[:cap(entries[k].Data)]
			for b := range data {
				data[b] = '!'
			}
			entries[k] = api.Entry{Term: -7, Data: []byte("spoilt")}
		}
		letters[i] = api.Letter{From: -7}
	}
}

// A trio is three pairs, and the letters that they told.
type trio struct {
	pairs []*pair
	post  []api.Letter
	rnd   *rand.Rand
}

func newTrio(t testing.TB, rnd *rand.Rand, blocks int) *trio {
	return &trio{pairs: []*pair{newPair(t, 0, blocks), newPair(t, 1, blocks), newPair(t, 2, blocks)}, rnd: rnd}
}

func (s *trio) one() *pair { return s.pairs[s.rnd.Intn(3)] }

// collect takes the letters of a pair into the post, in which the latest are the likeliest.
func (s *trio) collect(p *pair) {
	s.post = append(s.post, p.letters()...)
	s.post = s.post[max(0, len(s.post)-40):]
}

// somePost is a letter that one told, often one of the latest.
func (s *trio) somePost() (api.Letter, bool) {
	if len(s.post) == 0 {
		return api.Letter{}, false
	}
	back := s.rnd.Intn(s.rnd.Intn(len(s.post)) + 1)
	return copyOf(s.post[len(s.post)-1-back]), true
}

func dataBy(rnd *rand.Rand) []byte {
	n := rnd.Intn(6)
	switch rnd.Intn(40) {
	case 0:
		n = 4090 + rnd.Intn(9)
	case 1, 2, 3:
		n = rnd.Intn(400)
	}
	b := make([]byte, n)
	rnd.Read(b)
	return b
}

// madeUp is a letter to a pair that nobody told, but might have.
func (s *trio) madeUp(p *pair) api.Letter {
	rnd, m := s.rnd, p.model
	l := api.Letter{From: (p.id + 1 + rnd.Intn(2)) % 3, To: p.id, Kind: rnd.Intn(4) + 1, Term: max(1, m.term+[]int{0, 0, 0, 0, 0, -1, 1, 2}[rnd.Intn(8)])}
	l.Yes = rnd.Intn(3) > 0
	l.Index = max(0, m.last()-rnd.Intn(4)+rnd.Intn(2))
	if l.Index <= m.last() {
		l.Before = m.termAt(l.Index)
	} else {
		l.Before = rnd.Intn(l.Term) + 1
	}
	if rnd.Intn(8) == 0 && l.Index > 0 {
		l.Before = rnd.Intn(l.Term) + 1
	}
	if l.Kind != 3 {
		return l
	}
	l.Agreed = max(0, l.Index+rnd.Intn(5)-2)
	term := max(1, l.Before)
	for range rnd.Intn(4) * rnd.Intn(3) {
		if rnd.Intn(3) == 0 {
			term = min(l.Term, term+1)
		}
		l.Entries = append(l.Entries, api.Entry{Term: term, Data: dataBy(rnd)})
	}
	return l
}

// bent is a letter with a small change.
func bent(rnd *rand.Rand, l api.Letter) api.Letter {
	small := []int{-1, 0, 1, 2, 3, 4, 5, 399, 400, 401, 1000000000, 1000000001, math.MaxInt, math.MinInt}
	one := func() int { return small[rnd.Intn(rnd.Intn(len(small))+1)] }
	switch rnd.Intn(10) {
	case 0:
		l.From = one()
	case 1:
		l.To = one()
	case 2:
		l.Kind = one()
	case 3:
		l.Term = one()
	case 4:
		l.Index = one()
	case 5:
		l.Before = one()
	case 6:
		l.Agreed = one()
	case 7:
		l.Yes = !l.Yes
	case 8:
		l.Entries = append(l.Entries, api.Entry{Term: one(), Data: dataBy(rnd)})
	default:
		if len(l.Entries) > 0 {
			l.Entries[rnd.Intn(len(l.Entries))].Term = one()
		}
	}
	return l
}

// step does one thing by chance.
func (s *trio) step() {
	p, rnd := s.one(), s.rnd
	if !p.disk.Alive() && rnd.Intn(4) == 0 {
		p.reopen()
	}
	switch what := rnd.Intn(100); {
	case what < 20:
		for range rnd.Intn(rnd.Intn(16) + 1) {
			p.tick()
		}
	case what < 60:
		if l, ok := s.somePost(); ok {
			s.pairs[l.To].hear(l)
			s.collect(s.pairs[l.To])
		}
	case what < 68:
		l := s.madeUp(p)
		p.hear(l)
	case what < 74:
		if l, ok := s.somePost(); ok {
			to := s.pairs[l.To]
			to.hear(bent(rnd, l))
		}
	case what < 86:
		if rnd.Intn(4) > 0 { // most ask whom they know as the leader
			p = s.pairs[max(0, p.model.leader)]
		}
		p.propose(dataBy(rnd))
	case what < 92:
		s.collect(p)
	case what < 96:
		p.agreed()
	case rnd.Intn(4) > 0:
	case what < 97:
		p.fuse(rnd.Intn(12), waysToFail()[rnd.Intn(len(waysToFail()))])
	case what < 98:
		p.crash(waysToFail()[rnd.Intn(len(waysToFail()))])
	default:
		p.reopen()
	}
}

func waysToFail() []api.Crash {
	return []api.Crash{{Keep: 0}, {Keep: 9}, {Keep: 0, Torn: 3}, {Keep: 1}, {Keep: 1, Torn: 30}, {Keep: 2, Torn: 8}}
}

// TestRowsByChance: nodes that hear what the others told, what they might have told, and what nobody would; they fall and come again, on disks that are too small and on such as are not (A1 to A8, P2 to P4).
func TestRowsByChance(t *testing.T) {
	t.Parallel()
	for _, blocks := range []int{8, 9, 12, 20, 60, 300} {
		t.Run(fmt.Sprint(blocks), func(t *testing.T) {
			t.Parallel()
			var led, wrong, busy, falls, unkept, small int
			for seed := range int64(40) {
				rnd := rand.New(rand.NewSource(1000*int64(blocks) + seed))
				s := newTrio(t, rnd, blocks)
				for range 1500 {
					s.step()
				}
				for _, p := range s.pairs {
					alike(t, "in the end", p.disk, p.model.disk)
					led, wrong, busy, falls = led+p.led, wrong+p.wrong, busy+p.busy, falls+p.falls
					unkept, small = unkept+p.model.unkept, small+p.model.small
				}
			}
			t.Logf("led %d, wrong %d, busy %d, fell %d, not kept %d, made small %d", led, wrong, busy, falls, unkept, small)
			if led < 20 || wrong < 50 || falls < 20 || blocks < 30 && (busy < 20 || unkept < 20 || small < 50) {
				t.Error("too little has happened")
			}
		})
	}
}

// TestThePowerFailsAtEachCallOfTheDisk: whatever call it is in, the node is dead from then on, and one that is opened anew has what lasts (A1, A8).
func TestThePowerFailsAtEachCallOfTheDisk(t *testing.T) {
	t.Parallel()
	entry := func(n int) api.Entry { return api.Entry{Term: 2, Data: make([]byte, n)} }
	rows := []func(p *pair){
		func(p *pair) {
			for range 10 {
				p.tick()
			}
		},
		func(p *pair) { p.hear(api.Letter{From: 1, To: 0, Kind: api.Vote, Term: 1, Yes: true}) },
		func(p *pair) { p.propose([]byte("a command")) },
		func(p *pair) { p.propose(make([]byte, 60)) },
		func(p *pair) { p.hear(api.Letter{From: 2, To: 0, Kind: api.Ask, Term: 2, Index: 9, Before: 1}) },
		func(p *pair) {
			p.hear(api.Letter{From: 2, To: 0, Kind: api.Append, Term: 2, Index: 1, Before: 1, Agreed: 3, Entries: []api.Entry{entry(5), entry(20), entry(10)}})
		},
		func(p *pair) { p.hear(api.Letter{From: 1, To: 0, Kind: api.Append, Term: 9, Index: 9, Before: 9}) },
		func(p *pair) { p.hear(api.Letter{From: 1, To: 0, Kind: api.Answer, Term: 70}) },
	}
	for _, blocks := range []int{8, 10, 40} {
		for at := range rows {
			for writes := 0; ; writes++ {
				blown := false
				for _, how := range waysToFail() {
					blown = failsIn(t, blocks, rows, at, writes, how) || blown
				}
				if !blown {
					break
				}
			}
		}
	}
}

// failsIn sets the fuse ahead of one of a row of calls, and tells whether the power has failed in that one.
func failsIn(t testing.TB, blocks int, rows []func(p *pair), at, writes int, how api.Crash) bool {
	p := newPair(t, 0, blocks)
	blown := false
	for i, do := range rows {
		if i == at {
			p.fuse(writes, how)
		}
		do(p)
		if i == at {
			blown = !p.disk.Alive()
		}
	}
	p.letters()
	p.agreed()
	p.reopen()
	for _, do := range rows {
		do(p)
	}
	p.letters()
	p.agreed()
	return blown
}

// TestOpenOfAnyRecords: bytes that are a little other than what a node writes are refused, or taken as what they say (A1).
func TestOpenOfAnyRecords(t *testing.T) {
	t.Parallel()
	rnd := rand.New(rand.NewSource(4))
	taken, refused := 0, 0
	for range 12000 {
		var snapshot string
		var records []string
		term := rnd.Intn(3)
		if rnd.Intn(2) == 0 {
			var log []api.Entry
			for range rnd.Intn(3) * min(1, term) {
				log = append(log, api.Entry{Term: rnd.Intn(term) + 1, Data: dataBy(rnd)})
			}
			snapshot = sheet(term, rnd.Intn(4)-1, log...)
		}
		for range rnd.Intn(4) {
			if rnd.Intn(2) == 0 {
				term = rnd.Intn(4)
				records = append(records, ballot(term, rnd.Intn(4)-1))
			} else {
				records = append(records, enters(rnd.Intn(4), api.Entry{Term: rnd.Intn(max(1, term)) + 1, Data: dataBy(rnd)}))
			}
		}
		switch k := rnd.Intn(3 + len(records)); {
		case k == 0:
			snapshot = hurt(rnd, snapshot)
		case k > 2:
			records[k-3] = hurt(rnd, records[k-3])
		}
		if holdOpen(t, snapshot, records) {
			taken++
		} else {
			refused++
		}
	}
	if taken < 1000 || refused < 1000 {
		t.Errorf("%d were taken, %d refused: the test does not ask what it is to", taken, refused)
	}
}

// hurt is bytes with small changes.
func hurt(rnd *rand.Rand, s string) string {
	b := []byte(s)
	for range rnd.Intn(2) + 1 {
		if len(b) == 0 {
			return "\x00"
		}
		i := rnd.Intn(min(len(b), 12))
		switch rnd.Intn(6) {
		case 0:
			b = slices.Delete(b, i, i+1)
		case 1:
			b = slices.Insert(b, i, b[rnd.Intn(len(b))])
		case 2:
			b[i] = byte(rnd.Intn(256))
		case 3:
			b[i] += 2
		case 4:
			b[i] -= 2
		default:
			b = append(b, 0)
		}
	}
	return string(b)
}

// holdOpen wants that a node on this journal is as its model is, and tells whether there is one.
func holdOpen(t testing.TB, snapshot string, records []string) bool {
	t.Helper()
	d := formatted(t, 1000)
	lay(t, d, snapshot, records...)
	p := pairOn(t, 1, d)
	if p == nil {
		return false
	}
	term := p.model.term
	for _, l := range []api.Letter{
		{From: 0, To: 1, Kind: 1, Term: max(term, 1), Index: 400, Before: max(term, 1)}, // whom it voted for
		{From: 2, To: 1, Kind: 1, Term: max(term, 1), Index: 400, Before: max(term, 1)},
		{From: 2, To: 1, Kind: 3, Term: max(term, 1), Entries: []api.Entry{{Term: 1, Data: []byte("x")}}},
	} {
		p.hear(l)
	}
	p.letters()
	for range 12 {
		p.tick()
	}
	p.hear(api.Letter{From: 2, To: 1, Kind: 2, Term: term + 1, Yes: true})
	p.propose([]byte("y"))
	p.letters()
	return true
}

// lay makes a journal that says this.
func lay(t testing.TB, d *disk.Disk, snapshot string, records ...string) {
	t.Helper()
	j, _, _, errno := journal.Open(d)
	if errno != api.OK {
		t.Fatalf("L2: Open: %d", errno)
	}
	if errno := j.Compact([]byte(snapshot)); errno != api.OK {
		t.Fatalf("L4: Compact of %d bytes: %d", len(snapshot), errno)
	}
	for _, r := range records {
		if errno := j.Append([]byte(r)); errno != api.OK && r != "" {
			t.Fatalf("L3: Append of %q: %d", r, errno)
		}
	}
}

func formatted(t testing.TB, blocks int) *disk.Disk {
	t.Helper()
	d, errno := disk.New(blocks)
	if errno != api.OK {
		t.Fatalf("D1: New(%d): %d", blocks, errno)
	}
	if errno := Format(d); errno != api.OK {
		t.Fatalf("A1: Format: %d", errno)
	}
	return d
}

// A reel gives numbers off bytes, noughts at their end.
type reel []byte

func (r *reel) next() int {
	if len(*r) == 0 {
		return 0
	}
	n := (*r)[0]
	*r = (*r)[1:]
	return int(n)
}

// letter is one that the next bytes say: most of what they can say is near to what may be.
func (r *reel) letter(p *pair) api.Letter {
	l := api.Letter{From: r.next()%5 - 1, To: p.id, Kind: r.next() % 6, Term: p.model.term + r.next()%4 - 1, Yes: r.next()%2 == 1}
	l.Index, l.Before, l.Agreed = p.model.last()+r.next()%6-3, r.next()%5, r.next()%5
	for range r.next() % 10 {
		l.Entries = append(l.Entries, api.Entry{Term: r.next() % 5, Data: []byte(strings.Repeat("x", r.next()))})
	}
	return l
}

func FuzzCalls(f *testing.F) { // A2 to A8
	f.Add(byte(0), byte(20), []byte("\x00\x0a\x01\x02\x02\x01\x01\x03\x00\x00\x00\x00\x02\x05\x03\x04"))
	f.Add(byte(1), byte(0), []byte("\x01\x01\x03\x02\x00\x03\x00\x00\x02\x01\x05\x01\x09\x03\x04\x06\x01\x07"))
	f.Add(byte(2), byte(1), []byte("\x00\x0e\x01\x02\x02\x01\x01\x03\x00\x00\x00\x00\x02\xff\x02\xff\x02\xff\x03\x04"))
	f.Fuzz(func(t *testing.T, id, blocks byte, bytes []byte) {
		p := newPair(t, int(id)%3, 8+int(blocks)%60)
		r := reel(bytes[:min(len(bytes), 400)])
		for len(r) > 0 {
			switch r.next() % 8 {
			case 0:
				for range r.next() % 16 {
					p.tick()
				}
			case 1:
				p.hear(r.letter(p))
			case 2:
				p.propose(make([]byte, 17*r.next()))
			case 3:
				p.letters()
			case 4:
				p.agreed()
			case 5:
				p.fuse(r.next()%8, api.Crash{Keep: r.next() % 3, Torn: r.next() % 65})
			case 6:
				p.crash(api.Crash{Keep: r.next() % 3})
			default:
				p.reopen()
			}
		}
		p.letters()
		p.agreed()
	})
}

func FuzzOpen(f *testing.F) { // A1, P1
	e := api.Entry{Term: 1, Data: []byte("a")}
	f.Add([]byte(""), []byte(ballot(1, 0)), []byte(enters(1, e)))
	f.Add([]byte(sheet(2, -1, e, e)), []byte(enters(3, e)), []byte(enters(2, e)))
	f.Add([]byte(sheet(1000000000, 2)), []byte(ballot(0, -1)), []byte(enters(1, e)))
	f.Add([]byte("\x80\x00\x00\x00"), []byte("\x02\x00\x06"), []byte("\x04\x04\x02\x00"))
	f.Fuzz(func(t *testing.T, snapshot, first, second []byte) {
		if len(snapshot) < 20000 && len(first) < 6000 && len(second) < 6000 {
			holdOpen(t, string(snapshot), []string{string(first), string(second)})
		}
	})
}
