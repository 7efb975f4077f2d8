package quorum

import (
	"encoding/binary"
	"hash/fnv"
	"strings"
	"sync"
	"testing"

	"tocsin/api"
	"tocsin/disk"
)

// area is how many bytes a journal has on a disk of 8 blocks.
const area = 192

// filled is a house on 8 blocks whose snapshot leaves so many bytes of the area: it has one entry of the term 1. Less than eight are no room for a record.
func filled(t testing.TB, id, term, vote, spare int) (*house, api.Entry) {
	t.Helper()
	e := api.Entry{Term: 1}
	for len(sheet(term, vote, e)) < area-spare {
		e.Data = append(e.Data, 'x')
	}
	if len(sheet(term, vote, e)) != area-spare {
		t.Fatalf("a snapshot of %d bytes", len(sheet(term, vote, e)))
	}
	return houseWith(t, id, 8, sheet(term, vote, e)), e
}

// TestRecords: what is kept, byte by byte.
func TestRecords(t *testing.T) { // A1
	h := newHouse(t, 0, 60)
	h.ticks(10)
	h.hears(vote(2, 0, 1, true), api.OK)
	h.proposes("ab", 2, 1)
	h.hears(ask(1, 0, 70, 2, 1), api.OK)
	h.hears(appends(1, 0, 70, 1, 1, 0, "64 70c"), api.OK)
	h.keeps("", "\x02\x02\x00", "\x04\x02\x02\x00", "\x04\x04\x02\x02ab", "\x02\x8c\x01\x01", "\x02\x8c\x01\x02", "\x04\x04\x80\x01\x00", "\x04\x06\x8c\x01\x01c")
	// on 8 blocks there is no room for so many
	h = newHouse(t, 0, 8)
	for term := 1; term <= 19; term++ {
		h.hears(vote(1, 0, term, true), api.OK)
	}
	h.hears(appends(1, 0, 20, 0, 0, 0, "7a 20"), api.OK)
	h.keeps("\x28\x01\x00", "\x04\x02\x0e\x01a", "\x04\x04\x28\x00")
}

// TestRoomForARecord: one that is as long as there is room is appended; if it is longer, all is written anew.
func TestRoomForARecord(t *testing.T) { // A1
	for room := 50; room <= 54; room++ {
		h := leading(t, 0, 8, said(1, -1, "")) // 3, and 10 and 11 for two records: 161 bytes of room
		pad := strings.Repeat("y", area-24-7-4-7-room)
		h.proposes(pad, 2, 2)
		if got := h.node.journal.Room(); got != room {
			t.Fatalf("L5: Room: %d, want %d", got, room)
		}
		h.proposes(strings.Repeat("z", 48), 3, 2) // a record of 52
		first, second, third := row("2")[0], row("2" + pad)[0], row("2" + strings.Repeat("z", 48))[0]
		if room < 52 {
			h.keeps(sheet(2, 0, first, second, third))
		} else {
			h.keeps(said(1, -1, ""), ballot(2, 0), enters(1, first), enters(2, second), enters(3, third))
		}
	}
}

// TestTermsThatCannotBeKept: the term 64 has a byte more than 63.
func TestTermsThatCannotBeKept(t *testing.T) { // A2, A3
	for _, l := range []api.Letter{ask(0, 1, 64, 9, 9), vote(0, 1, 64, true), appends(0, 1, 64, 1, 1, 1, "64"), answer(0, 1, 64, false, 0)} {
		h, e := filled(t, 1, 63, -1, 0)
		h.hears(appends(2, 1, 63, 1, 1, 1, ""), api.OK)
		h.node.Letters()
		h.ticks(6)
		h.hears(l, api.OK)
		h.tells()
		h.knows(2, 63)
		h.ticks(5)
		h.hears(l, api.OK)
		h.tells()
		h.ticks(1) // the clock went on; it cannot stand either
		h.tells()
		h.knows(2, 63)
		h.hears(ask(0, 1, 63, 1, 1), api.OK) // it votes in its term, for that takes no byte more
		h.tells(vote(1, 0, 63, true))
		h.keeps(sheet(63, 0, e))
	}
	h, e := filled(t, 0, 63, -1, 0)
	like := h.disk.Copy()
	h.ticks(9)
	h.hears(appends(2, 0, 63, 1, 1, 1, ""), api.OK)
	h.node.Letters()
	h.ticks(55)
	h.tells()
	h.knows(2, 63)
	alike(t, "A2: what cannot be kept", h.disk, like)
	h, e = filled(t, 0, 63, -1, 1)
	h.ticks(10)
	h.tells(ask(0, 1, 64, 1, 1), ask(0, 2, 64, 1, 1))
	h.keeps(sheet(64, 0, e))
}

// TestWhoStandsAndCannotKeepTheNextTerm: it stands in its term as it did.
func TestWhoStandsAndCannotKeepTheNextTerm(t *testing.T) { // A2
	h, e := filled(t, 0, 62, -1, 0)
	h.ticks(10)
	h.tells(ask(0, 1, 63, 1, 1), ask(0, 2, 63, 1, 1))
	h.ticks(40)
	h.tells()
	h.knows(-1, 63)
	h.hears(vote(1, 0, 63, true), api.OK)
	h.knows(0, 63)
	h.keeps(sheet(63, 0, e))
}

// TestALeaderWithoutRoom: it has no entry of its own, and takes no command.
func TestALeaderWithoutRoom(t *testing.T) { // A4, A7
	h, e := filled(t, 0, 1, -1, 1)
	h.ticks(10)
	h.node.Letters()
	h.hears(vote(2, 0, 2, true), api.OK)
	h.knows(0, 2)
	h.tells(appends(0, 1, 2, 1, 1, 0, ""), appends(0, 2, 2, 1, 1, 0, ""))
	h.keeps(sheet(2, 0, e))
	h.hears(answer(1, 0, 2, true, 2), api.ErrLetter)
	h.hears(answer(1, 0, 2, true, 1), api.OK)
	h.agrees("")
	like := h.disk.Copy()
	h.refuses("x", api.ErrBusy)
	h.tells()
	alike(t, "A7: what cannot be kept", h.disk, like)
	if got := h.node.Log(); !sameLogs(got, []api.Entry{e}) {
		t.Errorf("A7: the log is %s", shownLog(got))
	}
	// one byte more, and there is one; then there is no place for a command
	h, e = filled(t, 0, 1, -1, 2)
	h.ticks(10)
	h.node.Letters()
	h.hears(vote(2, 0, 2, true), api.OK)
	h.tells(appends(0, 1, 2, 1, 1, 0, "2"), appends(0, 2, 2, 1, 1, 0, "2"))
	h.keeps(sheet(2, 0, e, row("2")[0]))
	h.refuses("x", api.ErrBusy)
	// a command of just the bytes that are left
	h, e = filled(t, 0, 1, -1, 9)
	h.ticks(10)
	h.hears(vote(2, 0, 2, true), api.OK)
	h.refuses("abcdef", api.ErrBusy)
	h.proposes("abcde", 3, 2)
	h.keeps(sheet(2, 0, e, row("2")[0], row("2abcde")[0]))
}

// TestEntriesThatCannotBeKept: with the first of them that is all.
func TestEntriesThatCannotBeKept(t *testing.T) { // A5
	h, e := filled(t, 1, 5, -1, 6)
	h.hears(appends(0, 1, 5, 1, 1, 4, "2a 3bcdef 4"), api.OK) // of 3, 7 and 2 bytes
	h.tells(answer(1, 0, 5, true, 2))
	if got := h.node.Log(); !sameLogs(got, append([]api.Entry{e}, row("2a")...)) {
		t.Errorf("A5: the log is %s", shownLog(got))
	}
	if got := h.node.Agreed(); len(got) != 2 { // as far as it has them
		t.Errorf("A5: %d are agreed on", len(got))
	}
	h.keeps(sheet(5, -1, e, row("2a")[0]))
	like := h.disk.Copy()
	h.hears(appends(0, 1, 5, 2, 2, 4, "3bcdef 4"), api.OK) // not one of them
	h.tells(answer(1, 0, 5, true, 2))
	h.knows(0, 5)
	alike(t, "A5: what cannot be kept", h.disk, like)
	h.hears(appends(0, 1, 5, 2, 2, 3, "3b 4 5"), api.OK) // 3 bytes, and no more
	h.tells(answer(1, 0, 5, true, 3))
}

// TestEntriesThatWouldTakeAPlace: those that stand there stay, if it cannot be kept.
func TestEntriesThatWouldTakeAPlace(t *testing.T) { // A5
	long := strings.Repeat("x", 60)
	h := houseWith(t, 1, 8, said(5, -1, "1a 2"+long+" 3"+long))
	like := h.disk.Copy()
	h.hears(appends(0, 1, 5, 1, 1, 3, "4"+strings.Repeat("y", 185)), api.OK)
	h.tells(answer(1, 0, 5, true, 1))
	h.logs("1a 2" + long + " 3" + long)
	h.agrees("1a")
	alike(t, "A5: what cannot be kept", h.disk, like)
	h.hears(appends(0, 1, 5, 1, 1, 2, "4"+strings.Repeat("y", 183)), api.OK) // the others make room for it
	h.tells(answer(1, 0, 5, true, 2))
	h.logs("1a 4" + strings.Repeat("y", 183))
	h.keeps(said(5, -1, "1a 4"+strings.Repeat("y", 183)))
}

// lastGeneration makes a journal that is empty, and can never be made small.
func lastGeneration(t testing.TB, d *disk.Disk) {
	t.Helper()
	head := []byte("tocsin\x00\x00")
	head = binary.LittleEndian.AppendUint32(head, 999999999)
	head = binary.LittleEndian.AppendUint32(head, 0)
	head = binary.LittleEndian.AppendUint32(head, fnv.New32a().Sum32())
	if errno := d.Write(1, head); errno != api.OK {
		t.Fatalf("D2: Write: error %d", errno)
	}
	d.Sync()
}

// TestVotesThatCannotBeKept: are none.
func TestVotesThatCannotBeKept(t *testing.T) { // A4
	d := formatted(t, 8)
	lastGeneration(t, d)
	h := houseOn(t, 0, d)
	for term := 1; term <= 18; term++ { // of 10 bytes each
		h.hears(vote(1, 0, term, true), api.OK)
	}
	h.ticks(8)
	h.hears(ask(1, 0, 18, 0, 0), api.OK)
	h.tells(vote(0, 1, 18, true))
	h.ticks(8)
	h.hears(ask(1, 0, 18, 0, 0), api.OK) // once more: nothing is to be kept
	h.tells(vote(0, 1, 18, true))
	h.ticks(9) // so far the clock was set back each time
	h.hears(ask(1, 0, 19, 0, 0), api.OK)
	h.tells() // nor can this term
	h.knows(-1, 18)

	d = formatted(t, 8)
	lastGeneration(t, d)
	h = houseOn(t, 0, d)
	for term := 1; term <= 19; term++ {
		h.hears(vote(1, 0, term, true), api.OK)
	}
	like := h.disk.Copy()
	h.hears(appends(2, 0, 19, 0, 0, 0, "1a"), api.OK)
	h.tells(answer(0, 2, 19, true, 0))
	h.ticks(9)
	h.hears(ask(1, 0, 19, 0, 0), api.OK)
	h.tells(vote(0, 1, 19, false))
	h.ticks(1) // the clock went on
	h.tells()
	h.knows(2, 19)
	h.logs("")
	alike(t, "A4: what cannot be kept", h.disk, like)
	h = houseOn(t, 0, d)
	h.knows(-1, 19)
}

// TestNothingIsShared: what is handed in is neither written into nor kept, and what comes out is the caller's.
func TestNothingIsShared(t *testing.T) { // P3
	h := newHouse(t, 1, 60)
	l := appends(0, 1, 2, 0, 0, 1, "1a 1bb 2cc")
	l.Entries = append(l.Entries, api.Entry{Term: 7})[:3]
	copied := copyOf(l)
	h.hears(l, api.OK)
	if !sameLetters([]api.Letter{l}, []api.Letter{copied}) || l.Entries[:4][3].Term != 7 {
		t.Errorf("P3: Hear writes into its letter: %s", shown(l))
	}
	spoil([]api.Letter{l})
	h.logs("1a 1bb 2cc")
	spoil([]api.Letter{{Entries: h.node.Log()}})
	spoil([]api.Letter{{Entries: h.node.Agreed()}})
	h.logs("1a 1bb 2cc")
	h.ticks(12)
	h.hears(vote(0, 1, 3, true), api.OK)
	command := []byte("dd!")[:2]
	if _, _, errno := h.node.Propose(command); errno != api.OK || string(command[:3]) != "dd!" {
		t.Errorf("P3: Propose: error %d, and the command is %q", errno, command[:3])
	}
	copy(command, "zz")
	h.hears(answer(0, 1, 3, false, 0), api.OK)
	letters := h.node.Letters()
	h.hears(answer(0, 1, 3, false, 0), api.OK)
	again := h.node.Letters()
	one := letters[len(letters)-1]
	for i := range one.Entries { // no two entries share their data, nor two letters their entries
		data := one.Entries[i].Data
		_ = append(data, "!!!!!!!!!!"...)
		one.Entries[i].Data = append(data[:0], "???"...)
	}
	spoil(letters)
	if want := appends(1, 0, 3, 0, 0, 1, "1a 1bb 2cc 3 3dd"); !sameLetters(again, []api.Letter{want}) {
		t.Errorf("P3: letters share memory: %s", shownAll(again))
	}
	spoil(again)
	h.ticks(3)
	h.tells(appends(1, 0, 3, 0, 0, 1, "1a 1bb 2cc 3 3dd"), appends(1, 2, 3, 3, 2, 1, "3 3dd"))
	h.logs("1a 1bb 2cc 3 3dd")
	h = houseOn(t, 1, h.disk)
	h.logs("1a 1bb 2cc 3 3dd")
}

// TestNodesAtOneTime: nodes have nothing to do with one another.
func TestNodesAtOneTime(t *testing.T) { // P4
	var all sync.WaitGroup
	base := formatted(t, 60)
	lay(t, base, said(4, -1, "1a 2b"))
	for k := range 9 {
		d := base.Copy()
		all.Go(func() {
			id := k % 3
			h := houseOn(t, id, d)
			h.ticks(10 + 2*id)
			h.hears(vote((id+1)%3, id, 5, true), api.OK)
			for n := range 20 {
				h.proposes(strings.Repeat("x", n+1), 4+n, 5)
			}
			h.hears(answer((id+2)%3, id, 5, true, 23), api.OK)
			if got := len(h.node.Agreed()); got != 23 {
				t.Errorf("P4: node %d: %d are agreed on", k, got)
			}
			h.knows(id, 5)
		})
	}
	all.Wait()
	houseOn(t, 0, base).logs("1a 2b")
}
