package quorum

import (
	"math"
	"slices"
	"strconv"
	"strings"
	"testing"

	"tocsin/api"
	"tocsin/disk"
	"tocsin/journal"
)

// A house is a node on its disk.
type house struct {
	testing.TB
	disk *disk.Disk
	node *Node
}

func newHouse(t testing.TB, id, blocks int) *house {
	t.Helper()
	return houseOn(t, id, formatted(t, blocks))
}

// houseOn is a house on a disk that can be opened.
func houseOn(t testing.TB, id int, d *disk.Disk) *house {
	t.Helper()
	n, errno := Open(id, d)
	if n == nil || errno != api.OK {
		t.Fatalf("A1: Open(%d): %v, error %d", id, n != nil, errno)
	}
	return &house{t, d, n}
}

// houseWith is a house on whose disk this stands.
func houseWith(t testing.TB, id, blocks int, snapshot string, records ...string) *house {
	t.Helper()
	d := formatted(t, blocks)
	lay(t, d, snapshot, records...)
	return houseOn(t, id, d)
}

// leading is a house that leads, with what the snapshot says; its box is empty.
func leading(t testing.TB, id, blocks int, snapshot string) *house {
	t.Helper()
	h := houseWith(t, id, blocks, snapshot)
	h.ticks(10 + 2*id)
	_, term := h.node.Leader()
	h.hears(api.Letter{From: (id + 1) % 3, To: id, Kind: api.Vote, Term: term, Yes: true}, api.OK)
	h.knows(id, term)
	h.node.Letters()
	return h
}

func (h *house) ticks(n int) {
	h.Helper()
	for range n {
		if errno := h.node.Tick(); errno != api.OK {
			h.Fatalf("A2: Tick: error %d", errno)
		}
	}
}

func (h *house) hears(l api.Letter, want api.Errno) {
	h.Helper()
	if errno := h.node.Hear(l); errno != want {
		h.Fatalf("A3: Hear %s: error %d, want %d", shown(l), errno, want)
	}
}

// tells wants just these letters.
func (h *house) tells(want ...api.Letter) {
	h.Helper()
	if got := h.node.Letters(); !sameLetters(got, want) {
		h.Fatalf("A8: letters\n%s, want\n%s", shownAll(got), shownAll(want))
	}
}

func (h *house) knows(leader, term int) {
	h.Helper()
	if id, now := h.node.Leader(); id != leader || now != term {
		h.Fatalf("A8: Leader: %d, %d; want %d, %d", id, now, leader, term)
	}
}

func (h *house) logs(want string) {
	h.Helper()
	if got := h.node.Log(); !sameLogs(got, row(want)) {
		h.Fatalf("A8: Log: %s, want %s", shownLog(got), shownLog(row(want)))
	}
}

func (h *house) agrees(want string) {
	h.Helper()
	if got := h.node.Agreed(); !sameLogs(got, row(want)) {
		h.Fatalf("A8: Agreed: %s, want %s", shownLog(got), shownLog(row(want)))
	}
}

func (h *house) proposes(command string, place, term int) {
	h.Helper()
	if p, now, errno := h.node.Propose([]byte(command)); p != place || now != term || errno != api.OK {
		h.Fatalf("A7: Propose of %d bytes: %d, %d, error %d; want %d, %d", len(command), p, now, errno, place, term)
	}
}

func (h *house) refuses(command string, want api.Errno) {
	h.Helper()
	if p, now, errno := h.node.Propose([]byte(command)); p != 0 || now != 0 || errno != want {
		h.Fatalf("A7, P2: Propose of %d bytes: %d, %d, error %d; want 0, 0, %d", len(command), p, now, errno, want)
	}
}

// keeps wants what the journal says.
func (h *house) keeps(snapshot string, records ...string) {
	h.Helper()
	_, s, list, errno := journal.Open(h.disk.Copy())
	if errno != api.OK || string(s) != snapshot || len(list) != len(records) {
		h.Fatalf("A1: the journal says %.99q, %.99q, error %d; want %.99q, %.99q", s, list, errno, snapshot, records)
	}
	for i := range list {
		if string(list[i]) != records[i] {
			h.Fatalf("A1: record %d is %.99q, want %.99q", i, list[i], records[i])
		}
	}
}

// row reads entries: of each its term, and its data right behind.
func row(s string) []api.Entry {
	var list []api.Entry
	for _, f := range strings.Fields(s) {
		data := strings.TrimLeft(f, "0123456789")
		term, _ := strconv.Atoi(f[:len(f)-len(data)])
		list = append(list, api.Entry{Term: term, Data: []byte(data)})
	}
	return list
}

// said is the snapshot of a term, a vote and a row.
func said(term, vote int, log string) string { return sheet(term, vote, row(log)...) }

func ask(from, to, term, index, before int) api.Letter {
	return api.Letter{From: from, To: to, Kind: api.Ask, Term: term, Index: index, Before: before}
}

func vote(from, to, term int, yes bool) api.Letter {
	return api.Letter{From: from, To: to, Kind: api.Vote, Term: term, Yes: yes}
}

func appends(from, to, term, index, before, agreed int, log string) api.Letter {
	return api.Letter{From: from, To: to, Kind: api.Append, Term: term, Index: index, Before: before, Agreed: agreed, Entries: row(log)}
}

func answer(from, to, term int, yes bool, index int) api.Letter {
	return api.Letter{From: from, To: to, Kind: api.Answer, Term: term, Yes: yes, Index: index}
}

// TestExamples: those of the chapter.
func TestExamples(t *testing.T) {
	h := []*house{newHouse(t, 0, 60), newHouse(t, 1, 60), newHouse(t, 2, 60)}
	for _, x := range h {
		x.ticks(10)
	}
	h[1].tells()
	h[2].tells()
	h[0].knows(-1, 1)
	h[0].tells(ask(0, 1, 1, 0, 0), ask(0, 2, 1, 0, 0))
	for i, x := range h[1:] {
		x.hears(ask(0, i+1, 1, 0, 0), api.OK)
		x.tells(vote(i+1, 0, 1, true))
	}
	h[0].hears(vote(1, 0, 1, true), api.OK)
	h[0].knows(0, 1)
	h[0].logs("1")
	h[0].tells(appends(0, 1, 1, 0, 0, 0, "1"), appends(0, 2, 1, 0, 0, 0, "1"))
	h[0].hears(vote(2, 0, 1, true), api.OK)
	h[0].tells()
	h[0].agrees("")
	h[1].hears(appends(0, 1, 1, 0, 0, 0, "1"), api.OK)
	h[1].tells(answer(1, 0, 1, true, 1))
	h[0].hears(answer(1, 0, 1, true, 1), api.OK)
	h[0].agrees("1")
	h[0].agrees("")
	h[0].proposes("x", 2, 1)
	h[1].refuses("x", api.ErrLeader)
	h[2].hears(ask(1, 2, 5, 0, 0), api.OK)
	h[2].knows(-1, 5)
	h[2].tells(vote(2, 1, 5, true))
	h[2].hears(appends(0, 2, 1, 0, 0, 0, "1"), api.OK)
	h[2].tells(answer(2, 0, 5, false, 0))
}

func TestFormat(t *testing.T) { // A1
	h := houseWith(t, 0, 20, said(3, 1, "1a 2b"))
	h.logs("1a 2b")
	like := h.disk.Copy()
	if a, b := Format(h.disk), journal.Format(like); a != api.OK || b != api.OK {
		t.Fatalf("A1: Format: error %d, the journal's %d", a, b)
	}
	alike(t, "A1: Format", h.disk, like)
	h = houseOn(t, 0, h.disk)
	h.knows(-1, 0)
	h.logs("")
	h.disk.Crash(api.Crash{})
	if errno := Format(h.disk); errno != api.ErrDead {
		t.Errorf("A1: Format without power: error %d", errno)
	}
}

// TestOpenRefuses: the error named first, and no node.
func TestOpenRefuses(t *testing.T) { // A1, P1, P2
	good, blank, off, broken := formatted(t, 8), formatted(t, 8), formatted(t, 8), formatted(t, 8)
	blank, _ = disk.New(8)
	off.Crash(api.Crash{})
	lay(t, broken, "x")
	for _, c := range []struct {
		name string
		d    *disk.Disk
		want api.Errno
	}{{"good", good, api.OK}, {"blank", blank, api.ErrFormat}, {"off", off, api.ErrDead}, {"broken", broken, api.ErrBroken}} {
		for _, id := range []int{-1, 3, math.MinInt, math.MaxInt} {
			if n, errno := Open(id, c.d); n != nil || errno != api.ErrArg {
				t.Errorf("A1: Open(%d, %s): %v, error %d; want ErrArg", id, c.name, n != nil, errno)
			}
		}
		for id := range 3 {
			if n, errno := Open(id, c.d); (n != nil) != (c.want == api.OK) || errno != c.want {
				t.Errorf("A1: Open(%d, %s): %v, error %d; want %d", id, c.name, n != nil, errno, c.want)
			}
		}
	}
	for _, d := range []*disk.Disk{nil, {}} {
		Format(d)
		if n, errno := Open(0, d); n != nil || errno == api.OK {
			t.Errorf("P1: Open of what is no disk: %v, error %d", n != nil, errno)
		}
	}
}

func TestOpenWritesNothing(t *testing.T) { // A1
	d := formatted(t, 20)
	lay(t, d, said(1, -1, "1a"), ballot(2, 0), enters(2, row("2b")[0]))
	like := d.Copy()
	houseOn(t, 0, d)
	alike(t, "A1: Open", d, like)
}

// TestOpenTells: what the snapshot and then the records say, one behind the other.
func TestOpenTells(t *testing.T) {
	one := func(s string) api.Entry { return row(s)[0] }
	for _, c := range []struct {
		snapshot   string
		records    []string
		term, vote int
		log        string
	}{
		{"", nil, 0, -1, ""},
		{said(0, -1, ""), nil, 0, -1, ""},
		{said(7, 2, "1a 5b 3"), nil, 7, 2, "1a 5b 3"},
		{"", []string{ballot(1, 0)}, 1, 0, ""},
		{"", []string{ballot(1, 0), ballot(2, -1), ballot(2, 1)}, 2, 1, ""},
		{"", []string{ballot(2, 2), enters(1, one("1a")), enters(2, one("2")), enters(3, one("1c"))}, 2, 2, "1a 2 1c"},
		{said(4, -1, "1a 2b 3c"), []string{enters(2, one("4x"))}, 4, -1, "1a 4x"},
		{said(4, -1, "1a 2b 3c"), []string{enters(1, one("4x")), enters(2, one("4y"))}, 4, -1, "4x 4y"},
		{said(4, -1, "1a 2b 3c"), []string{enters(3, one("4x")), enters(4, one("4y"))}, 4, -1, "1a 2b 4x 4y"},
		{said(4, 1, "4a"), []string{ballot(2, 0), enters(2, one("2b"))}, 2, 0, "4a 2b"}, // no node goes back, but it may be said
		{said(1000000000, 0, "1000000000a"), nil, 1000000000, 0, "1000000000a"},
		{"", []string{ballot(0, 2)}, 0, 2, ""},
		{"", []string{ballot(1000000000, -1)}, 1000000000, -1, ""},
	} {
		h := houseWith(t, 1, 40, c.snapshot, c.records...)
		h.knows(-1, c.term)
		h.logs(c.log)
		h.agrees("")
		h.tells()
		if c.term == 0 { // there is no letter of this term
			continue
		}
		for _, from := range []int{0, 2} {
			h := houseWith(t, 1, 40, c.snapshot, c.records...)
			h.hears(ask(from, 1, c.term, 400, c.term), api.OK)
			h.tells(vote(1, from, c.term, c.vote == -1 || c.vote == from))
		}
		h.refuses("x", api.ErrLeader)
		h.ticks(11)
		h.tells() // the clock was 0
	}
}

// many are entries of one term.
func many(n, term int) []api.Entry { return slices.Repeat([]api.Entry{{Term: term}}, n) }

// TestOpenBroken: what no node writes.
func TestOpenBroken(t *testing.T) {
	one := func(s string) api.Entry { return row(s)[0] }
	long := func(n int) api.Entry { return api.Entry{Term: 1, Data: make([]byte, n)} }
	for name, c := range map[string]struct {
		snapshot string
		records  []string
		taken    bool
	}{
		"a nought":                         {"\x00", nil, false},
		"no list":                          {number(1) + number(0), nil, false},
		"a byte left over":                 {said(1, 0, "1a") + "\x00", nil, false},
		"a list that is short":             {said(1, 0, "1a 1b")[:6], nil, false},
		"a number in two ways":             {"\x82\x00" + number(0) + listed(), nil, false},
		"a count in two ways":              {number(1) + number(0) + "\x80\x00", nil, false},
		"a term below 0":                   {said(-1, 0, ""), nil, false},
		"the greatest term":                {said(1000000000, 0, ""), nil, true},
		"a term above":                     {said(1000000001, 0, ""), nil, false},
		"a term far above":                 {said(math.MaxInt, 0, ""), nil, false},
		"a vote of -2":                     {said(1, -2, ""), nil, false},
		"a vote of 2":                      {said(1, 2, ""), nil, true},
		"a vote of 3":                      {said(1, 3, ""), nil, false},
		"a vote far above":                 {said(1, math.MaxInt, ""), nil, false},
		"an entry of the term 0":           {said(1, 0, "0a"), nil, false},
		"an entry of the node's term":      {said(3, 0, "3a"), nil, true},
		"an entry of a later term":         {said(3, 0, "3a 4b"), nil, false},
		"an entry of a term below 0":       {sheet(3, 0, api.Entry{Term: -1}), nil, false},
		"data of 4096 bytes":               {sheet(1, 0, long(4096)), nil, true},
		"data of 4097 bytes":               {sheet(1, 0, long(4097)), nil, false},
		"400 entries":                      {sheet(1, 0, many(400, 1)...), nil, true},
		"401 entries":                      {sheet(1, 0, many(401, 1)...), nil, false},
		"an entry at 401":                  {sheet(1, 0, many(400, 1)...), []string{enters(401, one("1"))}, false},
		"an entry at 400 of 400":           {sheet(1, 0, many(400, 1)...), []string{enters(400, one("1"))}, true},
		"an entry at 400 of 399":           {sheet(1, 0, many(399, 1)...), []string{enters(400, one("1"))}, true},
		"a record of the number 0":         {"", []string{number(0)}, false},
		"a record of the number 3":         {"", []string{number(3) + number(1) + number(1)}, false},
		"a record of the number -1":        {"", []string{number(-1)}, false},
		"a ballot without a vote":          {"", []string{number(1) + number(1)}, false},
		"a ballot without all":             {"", []string{number(1)}, false},
		"a ballot and more":                {"", []string{ballot(1, 0) + "\x00"}, false},
		"a ballot in two ways":             {"", []string{number(1) + "\x82\x00" + number(0)}, false},
		"a ballot of a term below 0":       {"", []string{ballot(-1, 0)}, false},
		"a ballot of the greatest term":    {"", []string{ballot(1000000000, 0)}, true},
		"a ballot of a term above":         {"", []string{ballot(1000000001, 0)}, false},
		"a ballot for -1":                  {"", []string{ballot(1, -1)}, true},
		"a ballot for -2":                  {"", []string{ballot(1, -2)}, false},
		"a ballot for 2":                   {"", []string{ballot(1, 2)}, true},
		"a ballot for 3":                   {"", []string{ballot(1, 3)}, false},
		"the first of two broken":          {"", []string{ballot(1, 3), ballot(1, 1)}, false},
		"the second of two broken":         {"", []string{ballot(1, 1), ballot(1, 3)}, false},
		"an entry without a text":          {said(1, 0, ""), []string{number(2) + number(1) + number(1)}, false},
		"an entry and more":                {said(1, 0, ""), []string{enters(1, one("1a")) + "\x00"}, false},
		"an entry whose text is short":     {said(1, 0, ""), []string{number(2) + number(1) + number(1) + "\x02a"}, false},
		"an entry at 1":                    {said(1, 0, ""), []string{enters(1, one("1a"))}, true},
		"an entry at 0":                    {said(1, 0, "1a"), []string{enters(0, one("1a"))}, false},
		"an entry at -1":                   {said(1, 0, "1a"), []string{enters(-1, one("1a"))}, false},
		"an entry at 2 of none":            {said(1, 0, ""), []string{enters(2, one("1a"))}, false},
		"an entry at 2 of one":             {said(1, 0, "1a"), []string{enters(2, one("1a"))}, true},
		"an entry at 3 of two, then one":   {said(1, 0, "1a 1b"), []string{enters(1, one("1a")), enters(3, one("1a"))}, false},
		"an entry far above":               {said(1, 0, "1a"), []string{enters(math.MaxInt, one("1a"))}, false},
		"an entry, of the term 0":          {said(1, 0, ""), []string{enters(1, one("0a"))}, false},
		"an entry, of a later term":        {said(1, 0, ""), []string{enters(1, one("2a"))}, false},
		"an entry ahead of its term":       {said(1, 0, ""), []string{enters(1, one("2a")), ballot(2, 0)}, false},
		"an entry behind its term":         {said(1, 0, ""), []string{ballot(2, 0), enters(1, one("2a"))}, true},
		"an entry behind a term that fell": {said(2, 0, ""), []string{ballot(1, 0), enters(1, one("2a"))}, false},
		"an entry of 4096 bytes":           {said(1, 0, ""), []string{enters(1, long(4096))}, true},
		"an entry of 4097 bytes":           {said(1, 0, ""), []string{enters(1, long(4097))}, false},
	} {
		d := formatted(t, 1000)
		lay(t, d, c.snapshot, c.records...)
		n, errno := Open(0, d)
		if c.taken && (n == nil || errno != api.OK) || !c.taken && (n != nil || errno != api.ErrBroken) {
			t.Errorf("A1: %s: %v, error %d; is to be taken: %v", name, n != nil, errno, c.taken)
		}
	}
}

// TestPatience: who hears nothing stands, the sooner the lesser its number, and again.
func TestPatience(t *testing.T) { // A2
	for id, patience := range []int{10, 12, 14} {
		others := [][]int{{1, 2}, {0, 2}, {0, 1}}[id]
		h := houseWith(t, id, 60, said(4, -1, "2a 3b"))
		kept := []string{}
		for round := range 3 {
			h.ticks(patience - 1)
			h.tells()
			h.ticks(1)
			term := 5 + round
			h.knows(-1, term)
			h.tells(ask(id, others[0], term, 2, 3), ask(id, others[1], term, 2, 3))
			kept = append(kept, ballot(term, id))
			h.keeps(said(4, -1, "2a 3b"), kept...)
		}
		h.logs("2a 3b")
		h.refuses("x", api.ErrLeader)
	}
}

// TestStandingForgetsTheLeader: and what it knew comes to an end with the term.
func TestStandingForgetsTheLeader(t *testing.T) { // A2, A4
	h := newHouse(t, 2, 60)
	h.hears(appends(1, 2, 3, 0, 0, 0, "1a"), api.OK)
	h.knows(1, 3)
	h.tells(answer(2, 1, 3, true, 1))
	h.ticks(14)
	h.knows(-1, 4)
	h.tells(ask(2, 0, 4, 1, 1), ask(2, 1, 4, 1, 1))
	h.hears(vote(0, 2, 4, false), api.OK)
	h.knows(-1, 4)
	h.hears(vote(0, 2, 3, true), api.OK) // of the term ahead
	h.knows(-1, 4)
	h.ticks(14)
	h.node.Letters()
	h.hears(vote(1, 2, 4, true), api.OK) // likewise
	h.knows(-1, 5)
	h.hears(vote(0, 2, 5, true), api.OK)
	h.knows(2, 5)
	h.keeps("", ballot(3, -1), enters(1, row("1a")[0]), ballot(4, 2), ballot(5, 2), enters(2, row("5")[0]))
}

func TestBeat(t *testing.T) { // A2
	h := leading(t, 1, 60, said(1, -1, "1a"))
	beat := []api.Letter{appends(1, 0, 2, 1, 1, 0, "2"), appends(1, 2, 2, 1, 1, 0, "2")}
	for range 20 {
		h.ticks(2)
		h.tells()
		h.ticks(1)
		h.tells(beat...)
	}
	h.ticks(2)
	h.proposes("x", 3, 2) // what else it tells does not set the clock back
	h.hears(answer(0, 1, 2, true, 1), api.OK)
	h.node.Letters()
	h.ticks(1)
	h.tells(appends(1, 0, 2, 1, 1, 0, "2 2x"), appends(1, 2, 2, 1, 1, 0, "2 2x"))
	h.knows(1, 2)
}

// TestTheLastTerm: there is none behind it.
func TestTheLastTerm(t *testing.T) { // A2
	h := houseWith(t, 0, 60, said(999999999, -1, ""))
	h.ticks(10)
	h.knows(-1, 1000000000)
	h.tells(ask(0, 1, 1000000000, 0, 0), ask(0, 2, 1000000000, 0, 0))
	like := h.disk.Copy()
	h.ticks(100)
	h.tells()
	h.knows(-1, 1000000000)
	alike(t, "A2: the last term", h.disk, like)
	h.hears(vote(1, 0, 1000000000, true), api.OK) // it stands as it did
	h.knows(0, 1000000000)
	h = houseWith(t, 0, 60, said(1000000000, -1, ""))
	h.hears(appends(2, 0, 1000000000, 0, 0, 0, ""), api.OK)
	h.ticks(100)
	h.knows(2, 1000000000)
	h.tells(answer(0, 2, 1000000000, true, 0))
}

func TestClocksAreSetBack(t *testing.T) { // A3 to A6
	for name, c := range map[string]struct {
		l    api.Letter
		want api.Errno
		back bool
	}{
		"a vote that is given":      {ask(0, 1, 5, 2, 4), api.OK, true},
		"one of a later term":       {ask(0, 1, 6, 2, 4), api.OK, true},
		"one that is not given":     {ask(0, 1, 5, 1, 4), api.OK, false},
		"that of a later term":      {ask(0, 1, 6, 1, 4), api.OK, false},
		"one for another one":       {ask(2, 1, 5, 0, 0), api.OK, false},
		"one of an earlier term":    {ask(0, 1, 4, 9, 4), api.OK, false},
		"an append":                 {appends(2, 1, 5, 2, 4, 0, ""), api.OK, true},
		"one that does not fit":     {appends(2, 1, 5, 9, 4, 0, ""), api.OK, true},
		"of an earlier term":        {appends(2, 1, 4, 2, 4, 0, ""), api.OK, false},
		"one that may not be":       {appends(2, 1, 5, 2, 0, 0, ""), api.ErrLetter, false},
		"what gainsays":             {appends(2, 1, 5, 0, 0, 0, "4x"), api.ErrLetter, false},
		"what gainsays, later":      {appends(2, 1, 6, 0, 0, 0, "4x"), api.ErrLetter, false},
		"a vote for who follows":    {vote(0, 1, 5, true), api.OK, false},
		"one of a later term, then": {vote(0, 1, 6, true), api.OK, false},
		"an answer":                 {answer(0, 1, 5, true, 0), api.OK, false},
		"an answer of a later term": {answer(0, 1, 9, true, 0), api.OK, false},
	} {
		h := houseWith(t, 1, 60, said(5, -1, "3a 4b"))
		h.hears(appends(0, 1, 5, 1, 3, 1, ""), api.OK)
		h.ticks(11)
		h.hears(c.l, c.want)
		h.node.Letters()
		_, term := h.node.Leader()
		h.ticks(1)
		if _, now := h.node.Leader(); (now == term) != c.back {
			t.Errorf("A3 to A6: %s: is the clock set back: %v, want %v", name, now == term, c.back)
		}
		if c.back {
			h.ticks(10)
			h.knows(h.leaderNow(), term)
			h.ticks(1)
			h.knows(-1, term+1)
		}
	}
}

func (h *house) leaderNow() int {
	id, _ := h.node.Leader()
	return id
}

func TestProposeRefuses(t *testing.T) { // A7, P2
	follows, leads := newHouse(t, 0, 60), leading(t, 0, 400, "")
	for _, h := range []*house{follows, leads} {
		like := h.disk.Copy()
		h.refuses("", api.ErrArg)
		h.refuses(strings.Repeat("x", 4097), api.ErrArg)
		h.refuses(strings.Repeat("x", 100000), api.ErrArg)
		alike(t, "A7: what is refused", h.disk, like)
		h.tells()
	}
	if _, _, errno := leads.node.Propose(nil); errno != api.ErrArg {
		t.Errorf("A7: Propose(nil): error %d", errno)
	}
	follows.refuses("x", api.ErrLeader)
	follows.ticks(10)
	follows.node.Letters()
	follows.refuses("x", api.ErrLeader) // it stands
	follows.tells()
	follows.logs("")
	leads.proposes("x", 2, 1)
	leads.proposes(strings.Repeat("x", 4096), 3, 1)
	leads.logs("1 1x 1" + strings.Repeat("x", 4096))
	leads.keeps("", ballot(1, 0), enters(1, row("1")[0]), enters(2, row("1x")[0]), enters(3, api.Entry{Term: 1, Data: []byte(strings.Repeat("x", 4096))}))
	leads.hears(answer(2, 0, 2, false, 0), api.OK)
	leads.refuses("x", api.ErrLeader) // it leads no more
	leads.refuses("", api.ErrArg)
}

func TestProposeTells(t *testing.T) { // A7
	h := leading(t, 2, 60, said(3, -1, "1a 3b"))
	h.logs("1a 3b 4")
	h.proposes("x", 4, 4)
	h.tells(appends(2, 0, 4, 2, 3, 0, "4 4x"), appends(2, 1, 4, 2, 3, 0, "4 4x"))
	h.hears(answer(1, 2, 4, true, 4), api.OK)
	h.tells()
	h.agrees("1a 3b 4 4x")
	h.proposes("y", 5, 4)
	h.tells(appends(2, 0, 4, 2, 3, 4, "4 4x 4y"), appends(2, 1, 4, 4, 4, 4, "4y"))
	h.agrees("")
}

// TestTooFarAhead: a leader takes no more than 32 commands that are not agreed on.
func TestTooFarAhead(t *testing.T) { // A7
	h := leading(t, 0, 400, said(1, -1, "1a"))
	for i := range 30 {
		h.proposes("x", 3+i, 2)
	}
	h.node.Letters()
	h.refuses("x", api.ErrBusy)
	h.refuses("", api.ErrArg)
	h.tells()
	if got := len(h.node.Log()); got != 32 {
		t.Errorf("A7: %d entries", got)
	}
	h.hears(answer(1, 0, 2, true, 1), api.OK) // of an earlier term: nothing is agreed on by that
	h.refuses("x", api.ErrBusy)
	h.hears(answer(1, 0, 2, true, 2), api.OK)
	h.proposes("x", 33, 2)
	h.proposes("x", 34, 2)
	h.refuses("x", api.ErrBusy)
	h.hears(answer(2, 0, 2, true, 34), api.OK)
	h.proposes("x", 35, 2)
}

// TestTheLastPlace: a log has 400 entries at most.
func TestTheLastPlace(t *testing.T) { // A4, A7
	h := leading(t, 0, 400, sheet(1, -1, many(398, 1)...))
	h.hears(answer(1, 0, 2, true, 399), api.OK)
	h.proposes("x", 400, 2)
	h.node.Letters()
	h.refuses("x", api.ErrBusy)
	h.hears(answer(1, 0, 2, true, 400), api.OK)
	h.refuses("x", api.ErrBusy)
	h.tells()
	if got := h.node.Agreed(); len(got) != 400 || got[399].Term != 2 || string(got[399].Data) != "x" {
		t.Errorf("A6: %d are agreed on", len(got))
	}
	// a new leader gets no entry of its own
	h = houseWith(t, 1, 400, sheet(1, -1, many(400, 1)...))
	h.ticks(12)
	h.tells(ask(1, 0, 2, 400, 1), ask(1, 2, 2, 400, 1))
	h.hears(vote(2, 1, 2, true), api.OK)
	h.knows(1, 2)
	h.tells(appends(1, 0, 2, 400, 1, 0, ""), appends(1, 2, 2, 400, 1, 0, ""))
	h.refuses("x", api.ErrBusy)
	h.hears(answer(2, 1, 2, true, 400), api.OK)
	h.agrees("")
	h.keeps(sheet(1, -1, many(400, 1)...), ballot(2, 1))
}

// TestBox: at most 64 letters, the latest.
func TestBox(t *testing.T) { // A8
	h := newHouse(t, 1, 60)
	var want []api.Letter
	for term := 3; term <= 72; term++ {
		h.hears(ask(0, 1, term, 0, 0), api.OK)
		want = append(want, vote(1, 0, term, true))
		if term == 66 { // just 64
			like := newHouse(t, 1, 60)
			for term := 3; term <= 66; term++ {
				like.hears(ask(0, 1, term, 0, 0), api.OK)
			}
			like.tells(want...)
		}
	}
	h.tells(want[6:]...)
	h.tells()
	h.hears(ask(0, 1, 72, 0, 0), api.OK)
	h.tells(vote(1, 0, 72, true))
}

// TestLettersStayAsTheyWere: what comes behind does not change them.
func TestLettersStayAsTheyWere(t *testing.T) { // A8
	h := leading(t, 0, 60, "")
	h.proposes("a", 2, 1)
	h.proposes("b", 3, 1)
	h.hears(appends(2, 0, 2, 0, 0, 1, "2x 2y"), api.OK)
	h.logs("2x 2y")
	h.tells(
		appends(0, 1, 1, 0, 0, 0, "1 1a"), appends(0, 2, 1, 0, 0, 0, "1 1a"),
		appends(0, 1, 1, 0, 0, 0, "1 1a 1b"), appends(0, 2, 1, 0, 0, 0, "1 1a 1b"),
		answer(0, 2, 2, true, 2))
	h.agrees("2x")
}

// TestAgreedIsToldOnce: and once more behind Open.
func TestAgreedIsToldOnce(t *testing.T) { // A8
	h := newHouse(t, 1, 60)
	h.hears(appends(0, 1, 2, 0, 0, 1, "1a 1b 2c 2d"), api.OK)
	h.agrees("1a")
	h.agrees("")
	h.hears(appends(0, 1, 2, 4, 2, 2, ""), api.OK)
	h.hears(appends(0, 1, 2, 4, 2, 4, ""), api.OK)
	h.hears(appends(0, 1, 2, 4, 2, 3, ""), api.OK) // an old one
	h.agrees("1b 2c 2d")
	h.agrees("")
	h = houseOn(t, 1, h.disk)
	h.agrees("")
	h.hears(appends(0, 1, 2, 4, 2, 3, ""), api.OK)
	h.agrees("1a 1b 2c")
}

// TestDead: nothing but that, whatever it is asked, though the power comes back.
func TestDead(t *testing.T) { // A2, A3, A7, A8
	h := leading(t, 0, 60, said(1, -1, "1a"))
	h.proposes("x", 3, 2)
	h.hears(answer(1, 0, 2, true, 3), api.OK)
	h.disk.Crash(api.Crash{})
	for range 2 {
		like := h.disk.Copy()
		if errno := h.node.Tick(); errno != api.ErrDead {
			t.Errorf("A2: Tick: error %d", errno)
		}
		for _, l := range []api.Letter{{}, ask(1, 0, 9, 9, 9), appends(1, 0, 9, 0, 0, 0, "1"), answer(1, 0, 2, true, 3), vote(1, 0, 2, true)} {
			h.hears(l, api.ErrDead)
		}
		for _, command := range []string{"", "x", strings.Repeat("x", 4097)} {
			h.refuses(command, api.ErrDead)
		}
		for range 20 {
			h.node.Tick()
		}
		h.tells()
		h.agrees("")
		h.logs("")
		h.knows(-1, 0)
		alike(t, "A8: who is dead writes nothing", h.disk, like)
		h.disk.Restart()
	}
	h = houseOn(t, 0, h.disk)
	h.knows(-1, 2)
	h.logs("1a 2 2x")
	h.agrees("")
	h.tells()
	h.disk.Restart() // with the power on that is nothing
	h.knows(-1, 2)
	h.ticks(10)
	h.knows(-1, 3)
}

// TestOpenBehindFalls: a disk may have fallen ever so often, ahead of Open.
func TestOpenBehindFalls(t *testing.T) { // A1
	d := formatted(t, 40)
	for k := 1; k < 5; k++ {
		d.Crash(api.Crash{})
		d.Restart()
		h := houseOn(t, 0, d)
		h.ticks(10)
		h.knows(-1, k)
	}
}

func TestNodesOfOneDiskBehindAnother(t *testing.T) { // A1: one at a time, of whatever number
	d := formatted(t, 40)
	for k := range 9 {
		h := houseOn(t, k%3, d)
		h.ticks(14)
		h.knows(-1, k+1)
		others := [][]int{{1, 2}, {0, 2}, {0, 1}}[k%3]
		h.tells(ask(k%3, others[0], k+1, 0, 0), ask(k%3, others[1], k+1, 0, 0))
	}
}
