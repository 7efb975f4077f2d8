package quorum

import (
	"encoding/binary"
	"fmt"
	"strings"
	"testing"

	"tocsin/api"
	"tocsin/disk"
	"tocsin/journal"
)

// number, text and listed are a number, a text and a list as they are written, by the library's means.
func number(n int) string { return string(binary.AppendVarint(nil, int64(n))) }

func text(s string) string { return string(binary.AppendUvarint(nil, uint64(len(s)))) + s }

func listed(things ...string) string {
	return string(binary.AppendUvarint(nil, uint64(len(things)))) + strings.Join(things, "")
}

// ballot, enters and sheet are the records and the snapshot, in the chapter's words.
func ballot(term, vote int) string { return number(1) + number(term) + number(vote) }

func enters(place int, e api.Entry) string {
	return number(2) + number(place) + number(e.Term) + text(string(e.Data))
}

func sheet(term, vote int, log ...api.Entry) string {
	var things []string
	for _, e := range log {
		things = append(things, number(e.Term)+text(string(e.Data)))
	}
	return number(term) + number(vote) + listed(things...)
}

// A cutter takes numbers and texts off bytes, and does not mind how they are written: who wants to know writes them again.
type cutter struct {
	rest  []byte
	short bool
}

func (c *cutter) number() int {
	n, size := binary.Varint(c.rest)
	if size <= 0 {
		c.short, size = true, 0
	}
	c.rest = c.rest[size:]
	return int(n)
}

func (c *cutter) count() uint64 {
	n, size := binary.Uvarint(c.rest)
	if size <= 0 {
		c.short, size = true, 0
	}
	c.rest = c.rest[size:]
	return n
}

func (c *cutter) entry() api.Entry {
	e := api.Entry{Term: c.number()}
	n := c.count()
	if n > uint64(len(c.rest)) {
		c.short = true
		return e
	}
	e.Data, c.rest = c.rest[:n], c.rest[n:]
	return e
}

// A model is a node in the words of the chapter. It has a disk and a journal of its own; all it keeps beside them is plain.
type model struct {
	id           int
	disk         *disk.Disk
	journal      *journal.Journal
	dead         bool
	term, vote   int
	log          []api.Entry
	agreed, told int
	follows      bool
	stands       bool
	leads        bool
	leader       int
	votes        map[int]bool
	next, has    map[int]int
	clock        int
	box          []api.Letter
	unkept       int // how often a change could not be kept
	small        int // how often the journal was made small
}

func openModel(id int, d *disk.Disk) (*model, api.Errno) {
	if id != 0 && id != 1 && id != 2 {
		return nil, api.ErrArg
	}
	j, snapshot, records, errno := journal.Open(d)
	if errno != api.OK {
		return nil, errno
	}
	m := &model{id: id, disk: d, journal: j, vote: -1, follows: true, leader: -1}
	if len(snapshot) > 0 && !m.readSheet(snapshot) {
		return nil, api.ErrBroken
	}
	for _, r := range records {
		if !m.readRecord(r) {
			return nil, api.ErrBroken
		}
	}
	return m, api.OK
}

func (m *model) mayBe(e api.Entry) bool {
	return e.Term >= 1 && e.Term <= m.term && len(e.Data) <= 4096
}

func (m *model) readSheet(b []byte) bool {
	c := &cutter{rest: b}
	m.term, m.vote = c.number(), c.number()
	n := c.count()
	if n > 400 || m.term < 0 || m.term > 1000000000 || m.vote < -1 || m.vote > 2 {
		return false
	}
	for range n {
		e := c.entry()
		if !m.mayBe(e) {
			return false
		}
		m.log = append(m.log, e)
	}
	return !c.short && sheet(m.term, m.vote, m.log...) == string(b)
}

func (m *model) readRecord(b []byte) bool {
	c := &cutter{rest: b}
	switch c.number() {
	case 1:
		m.term, m.vote = c.number(), c.number()
		return !c.short && m.term >= 0 && m.term <= 1000000000 && m.vote >= -1 && m.vote <= 2 && ballot(m.term, m.vote) == string(b)
	case 2:
		place := c.number()
		e := c.entry()
		if c.short || place < 1 || place > len(m.log)+1 || place > 400 || !m.mayBe(e) || enters(place, e) != string(b) {
			return false
		}
		m.log = append(append([]api.Entry{}, m.log[:place-1]...), e)
		return true
	}
	return false
}

// keep tells whether a change of what lasts was kept: in the journal, not yet in the model.
func (m *model) keep(record, snapshot string) bool {
	var errno api.Errno
	if len(record) <= m.journal.Room() {
		errno = m.journal.Append([]byte(record))
	} else {
		errno = m.journal.Compact([]byte(snapshot))
		m.small++
	}
	if errno == api.ErrFull {
		m.unkept++
	}
	if errno == api.ErrDead {
		m.dead = true
	}
	return errno == api.OK
}

func (m *model) keepBallot(term, vote int) bool {
	if !m.keep(ballot(term, vote), sheet(term, vote, m.log...)) {
		return false
	}
	m.term, m.vote = term, vote
	return true
}

func (m *model) keepEntry(place int, e api.Entry) bool {
	log := append(append([]api.Entry{}, m.log[:place-1]...), api.Entry{Term: e.Term, Data: []byte(string(e.Data))})
	if !m.keep(enters(place, e), sheet(m.term, m.vote, log...)) {
		return false
	}
	m.log = log
	return true
}

func (m *model) last() int { return len(m.log) }

func (m *model) termAt(place int) int {
	if place == 0 {
		return 0
	}
	return m.log[place-1].Term
}

func (m *model) others() []int { return [][]int{{1, 2}, {0, 2}, {0, 1}}[m.id] }

func (m *model) put(l api.Letter) {
	l.From, l.Term = m.id, m.term
	m.box = append(m.box, l)
	m.box = m.box[max(0, len(m.box)-64):]
}

func (m *model) putAppend(to int) {
	l := api.Letter{To: to, Kind: 3, Index: m.next[to] - 1, Before: m.termAt(m.next[to] - 1), Agreed: m.agreed}
	for place := m.next[to]; place <= m.last() && place < m.next[to]+8; place++ {
		l.Entries = append(l.Entries, m.log[place-1])
	}
	m.put(l)
}

func (m *model) putAppends() {
	for _, to := range m.others() {
		m.putAppend(to)
	}
}

func (m *model) tick() api.Errno {
	if m.dead {
		return api.ErrDead
	}
	m.clock++
	if m.leads {
		if m.clock >= 3 {
			m.clock = 0
			m.putAppends()
		}
		return api.OK
	}
	if m.clock < []int{10, 12, 14}[m.id] {
		return api.OK
	}
	m.clock = 0
	if m.term < 1000000000 && m.keepBallot(m.term+1, m.id) {
		m.follows, m.stands, m.leads = false, true, false
		m.votes = map[int]bool{m.id: true}
		m.leader = -1
		for _, to := range m.others() {
			m.put(api.Letter{To: to, Kind: 1, Index: m.last(), Before: m.termAt(m.last())})
		}
	}
	return m.unless(api.OK)
}

func (m *model) unless(errno api.Errno) api.Errno {
	if m.dead {
		return api.ErrDead
	}
	return errno
}

// wrong tells whether a letter may not be.
func (m *model) wrong(l api.Letter) bool {
	out := func(n, from, to int) bool { return n < from || n > to }
	placed := l.Kind == 1 || l.Kind == 3
	switch {
	case l.To != m.id, out(l.From, 0, 2), l.From == m.id, out(l.Kind, 1, 4), out(l.Term, 1, 1000000000):
		return true
	case out(l.Index, 0, 400), out(l.Agreed, 0, 400), out(l.Before, 0, l.Term):
		return true
	case placed && l.Before == 0 && l.Index != 0, placed && l.Before != 0 && l.Index == 0:
		return true
	case len(l.Entries) > 8, len(l.Entries) > 0 && l.Kind != 3, l.Index+len(l.Entries) > 400:
		return true
	}
	for i, e := range l.Entries {
		if out(e.Term, 1, l.Term) || len(e.Data) > 4096 {
			return true
		}
		if i == 0 && e.Term < l.Before || i > 0 && e.Term < l.Entries[i-1].Term {
			return true
		}
	}
	return false
}

func (m *model) hear(l api.Letter) api.Errno {
	switch {
	case m.dead:
		return api.ErrDead
	case m.wrong(l):
		return api.ErrLetter
	case l.Term < m.term && l.Kind == 1:
		m.put(api.Letter{To: l.From, Kind: 2})
		return api.OK
	case l.Term < m.term && l.Kind == 3:
		m.put(api.Letter{To: l.From, Kind: 4})
		return api.OK
	case l.Term < m.term:
		return api.OK
	}
	if l.Term > m.term {
		if !m.keepBallot(l.Term, -1) {
			return m.unless(api.OK)
		}
		m.follows, m.stands, m.leads = true, false, false
		m.leader = -1
	}
	errno := api.OK
	switch l.Kind {
	case 1:
		m.asked(l)
	case 2:
		m.voted(l)
	case 3:
		errno = m.appended(l)
	case 4:
		errno = m.answered(l)
	}
	return m.unless(errno)
}

func (m *model) asked(l api.Letter) {
	yes := m.vote == -1 || m.vote == l.From
	if m.leads || m.stands {
		yes = false
	}
	if l.Before < m.termAt(m.last()) || l.Before == m.termAt(m.last()) && l.Index < m.last() {
		yes = false
	}
	if yes && m.vote == -1 {
		yes = m.keepBallot(m.term, l.From)
	}
	if yes {
		m.clock = 0
	}
	m.put(api.Letter{To: l.From, Kind: 2, Yes: yes})
}

func (m *model) voted(l api.Letter) {
	if !m.stands || !l.Yes {
		return
	}
	m.votes[l.From] = true
	if len(m.votes) < 2 {
		return
	}
	m.follows, m.stands, m.leads = false, false, true
	m.leader, m.clock = m.id, 0
	m.next, m.has = map[int]int{}, map[int]int{}
	for _, to := range m.others() {
		m.next[to], m.has[to] = m.last()+1, 0
	}
	if m.last() != 400 {
		m.keepEntry(m.last()+1, api.Entry{Term: m.term})
	}
	m.putAppends()
}

func (m *model) appended(l api.Letter) api.Errno {
	if m.leads {
		return api.ErrLetter
	}
	for i, e := range l.Entries {
		if place := l.Index + i + 1; place <= m.agreed && m.log[place-1].Term != e.Term {
			return api.ErrLetter
		}
	}
	m.follows, m.stands = true, false
	m.leader, m.clock = l.From, 0
	if l.Index > m.last() || m.termAt(l.Index) != l.Before {
		index := l.Index - 1
		if m.last() < index {
			index = m.last()
		}
		if index < 0 {
			index = 0
		}
		m.put(api.Letter{To: l.From, Kind: 4, Index: index})
		return api.OK
	}
	got := l.Index
	for i, e := range l.Entries {
		place := l.Index + i + 1
		if place > m.last() || m.log[place-1].Term != e.Term {
			if !m.keepEntry(place, e) {
				break
			}
		}
		got = place
	}
	if lesser := min(l.Agreed, got); lesser > m.agreed {
		m.agreed = lesser
	}
	m.put(api.Letter{To: l.From, Kind: 4, Yes: true, Index: got})
	return api.OK
}

func (m *model) answered(l api.Letter) api.Errno {
	switch p := l.From; {
	case !m.leads:
	case l.Yes && l.Index > m.last():
		return api.ErrLetter
	case l.Yes:
		was := m.has[p]
		m.has[p] = max(was, l.Index)
		m.next[p] = m.has[p] + 1
		for place := m.agreed + 1; place <= m.last(); place++ {
			if m.log[place-1].Term == m.term && (m.has[m.others()[0]] >= place || m.has[m.others()[1]] >= place) {
				m.agreed = place
			}
		}
		if m.has[p] > was && m.next[p] <= m.last() {
			m.putAppend(p)
		}
	default:
		m.next[p] = max(1, m.has[p]+1, min(m.next[p]-1, l.Index+1))
		m.putAppend(p)
	}
	return api.OK
}

func (m *model) propose(command []byte) (int, int, api.Errno) {
	switch {
	case m.dead:
		return 0, 0, api.ErrDead
	case len(command) < 1 || len(command) > 4096:
		return 0, 0, api.ErrArg
	case !m.leads:
		return 0, 0, api.ErrLeader
	case m.last() == 400 || m.last() >= m.agreed+32:
		return 0, 0, api.ErrBusy
	case !m.keepEntry(m.last()+1, api.Entry{Term: m.term, Data: command}):
		return 0, 0, m.unless(api.ErrBusy)
	}
	m.putAppends()
	return m.last(), m.term, api.OK
}

func (m *model) letters() []api.Letter {
	box := m.box
	m.box = nil
	if m.dead {
		return nil
	}
	return box
}

func (m *model) agrees() []api.Entry {
	if m.dead {
		return nil
	}
	list := m.log[m.told:m.agreed]
	m.told = m.agreed
	return list
}

func (m *model) knows() (int, int) {
	if m.dead {
		return -1, 0
	}
	return m.leader, m.term
}

func (m *model) logs() []api.Entry {
	if m.dead {
		return nil
	}
	return m.log
}

// shown writes a letter, entries and letters, so that no two are written alike; a list of nothing as nil is.
func shown(l api.Letter) string {
	kind := fmt.Sprint(l.Kind)
	if l.Kind >= 1 && l.Kind <= 4 {
		kind = []string{"Ask", "Vote", "Append", "Answer"}[l.Kind-1]
	}
	return fmt.Sprintf("{%d to %d: %s of %d, index %d, before %d, agreed %d, %v, %s}", l.From, l.To, kind, l.Term, l.Index, l.Before, l.Agreed, l.Yes, shownLog(l.Entries))
}

func shownLog(log []api.Entry) string {
	var b strings.Builder
	for _, e := range log {
		data := string(e.Data)
		if len(data) > 40 {
			data = fmt.Sprintf("%d bytes, %s..%s", len(data), data[:15], data[len(data)-15:])
		}
		fmt.Fprintf(&b, "(%d %q)", e.Term, data)
	}
	return b.String()
}

func shownAll(letters []api.Letter) string {
	var list []string
	for _, l := range letters {
		list = append(list, shown(l))
	}
	return strings.Join(list, "\n")
}

// sameLogs tells whether entries are the same, to the last byte.
func sameLogs(a, b []api.Entry) bool {
	if len(a) != len(b) {
		return false
	}
	for i := range a {
		if a[i].Term != b[i].Term || string(a[i].Data) != string(b[i].Data) {
			return false
		}
	}
	return true
}

func sameLetters(a, b []api.Letter) bool {
	if len(a) != len(b) || shownAll(a) != shownAll(b) {
		return false
	}
	for i := range a {
		if !sameLogs(a[i].Entries, b[i].Entries) {
			return false
		}
	}
	return true
}

// alike wants that two disks have the same bytes, and were asked as often.
func alike(t testing.TB, what string, d, like *disk.Disk) {
	t.Helper()
	w1, s1 := d.Costs()
	w2, s2 := like.Costs()
	if w1 != w2 || s1 != s2 || d.Alive() != like.Alive() || d.Falls() != like.Falls() {
		t.Fatalf("%s: %d writes and %d syncs, alive: %v, fallen %d times; want %d and %d, %v, %d", what, w1, s1, d.Alive(), d.Falls(), w2, s2, like.Alive(), like.Falls())
	}
	if !d.Alive() {
		return
	}
	for i := range d.Blocks() {
		a, _ := d.Read(i)
		b, _ := like.Read(i)
		if string(a) != string(b) {
			t.Fatalf("%s: block %d is\n%q, want\n%q", what, i, a, b)
		}
	}
}
