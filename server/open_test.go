package server

import (
	"fmt"
	"slices"
	"strings"
	"testing"

	"tocsin/api"
	"tocsin/disk"
	"tocsin/engine"
	"tocsin/journal"
)

// waysToFail are ways in which the power fails, at the edges of writes and of what a record and a head begin with.
func waysToFail() []api.Crash {
	var out []api.Crash
	for _, keep := range []int{0, 1, 2, 100} {
		for _, torn := range []int{0, 1, 8, 64} {
			out = append(out, api.Crash{Keep: keep, Torn: torn})
		}
	}
	return append(out, api.Crash{Keep: -1, Torn: 7}, api.Crash{Keep: 3, Torn: 63}, api.Crash{Keep: 0, Torn: 32})
}

// lastGeneration lays the head of a journal on a disk that can be made small no more.
func lastGeneration(t *testing.T, d *disk.Disk) {
	t.Helper()
	head := append([]byte("tocsin\x00\x00"), 0xff, 0xc9, 0x9a, 0x3b, 0, 0, 0, 0, 197, 157, 28, 129)
	same(t, "D2: Write", d.Write(1, head), api.OK)
	same(t, "D3: Sync", d.Sync(), api.OK)
}

// journalOf is the journal on a disk, for who writes by hand.
func journalOf(t *testing.T, d *disk.Disk) *journal.Journal {
	t.Helper()
	j, _, _, errno := journal.Open(d)
	if errno != api.OK {
		t.Fatalf("L2: Open: error %d", errno)
	}
	return j
}

// laid is a disk with a snapshot (none, if it is empty) and records.
func laid(t *testing.T, blocks int, snapshot string, records ...string) *disk.Disk {
	t.Helper()
	d := formatted(t, blocks)
	j := journalOf(t, d)
	if snapshot != "" {
		same(t, "L4: Compact", j.Compact([]byte(snapshot)), api.OK)
	}
	for _, r := range records {
		same(t, "L3: Append", j.Append([]byte(r)), api.OK)
	}
	return d
}

// savedBehind is what a fresh engine saves that has done commands.
func savedBehind(commands ...string) string {
	e := engine.New()
	for _, command := range commands {
		e.Do(value(command))
	}
	return string(e.Save())
}

func TestFormatIsTheJournals(t *testing.T) { // V1
	unlaid, dying := blank(t, 8), formatted(t, 8)
	dying.Crash(api.Crash{})
	last := blank(t, 20)
	lastGeneration(t, last)
	used := formatted(t, 60)
	does(t, opened(t, used), tick(1), tick(2), padded(3, 1000), padded(4, 1000))
	for name, d := range map[string]*disk.Disk{"noughts": unlaid, "the greatest": blank(t, api.MaxBlocks), "dead": dying, "the last generation": last, "used": used, "again": formatted(t, 9)} {
		like := d.Copy()
		same(t, "V1: Format: "+name, Format(d), journal.Format(like))
		alike(t, "V1: Format: "+name, d, like)
	}
	same(t, "V1: the power is off", Format(dying), api.ErrDead)
	same(t, "V1: the last generation", Format(last), api.ErrFull)
	same(t, "V1: no disk", Format(nil), journal.Format(nil))
	same(t, "V1, P1: a disk of nothing", Format(&disk.Disk{}), journal.Format(&disk.Disk{}))
	wants(t, "V1: behind Format nothing is known", opened(t, used), tick(0), ticked)
}

func TestFormatWhenThePowerFails(t *testing.T) { // V1, V6
	used := formatted(t, 30)
	does(t, opened(t, used), tick(1), setPusher("@a:home", "k"))
	known := []string{savedBehind(), savedBehind(tick(1), setPusher("@a:home", "k"))}
	for writes := range 5 {
		for _, c := range waysToFail() {
			for i, d := range []*disk.Disk{blank(t, 30), used.Copy()} {
				d.Fuse(writes, c)
				errno := Format(d)
				same(t, fmt.Sprintf("V1: Format, the power fails at %d by %+v: alive", writes, c), d.Alive(), errno == api.OK)
				d.Restart()
				s, refusal := Open(d)
				if refusal == api.ErrFormat && i == 0 && errno == api.ErrDead {
					continue
				}
				if refusal != api.OK {
					t.Fatalf("V1, V2: the power fails at %d by %+v: Open: error %d", writes, c, refusal)
				}
				got := string(s.engine.Save())
				if got != known[0] && (i == 0 || got != known[1] || errno == api.OK) {
					t.Errorf("V1: the power fails at %d by %+v: it knows %q", writes, c, got)
				}
			}
		}
	}
}

func TestOpenOfADiskThatHoldsNothing(t *testing.T) { // V2
	refused(t, "noughts", blank(t, 8), api.ErrFormat)
	refused(t, "noughts", blank(t, api.MaxBlocks), api.ErrFormat)
	d := blank(t, 20)
	d.Crash(api.Crash{})
	refused(t, "noughts, and the power is off", d, api.ErrDead)
	d = formatted(t, 20)
	d.Crash(api.Crash{})
	refused(t, "the power is off", d, api.ErrDead)
	d.Restart()
	opened(t, d)
	d = laid(t, 20, "", "x")
	d.Crash(api.Crash{})
	refused(t, "a wrong record, and the power is off", d, api.ErrDead)
	for k := range 2 {
		d = formatted(t, 20)
		d.Write(1-k, nil)
		d.Write(k, []byte("tocsin"))
		refused(t, "a spoilt head", d, api.ErrFormat)
	}
	s, errno := Open(nil)
	if _, _, _, want := journal.Open(nil); s != nil || errno != want {
		t.Errorf("V2: no disk: %t, error %d, want %d", s != nil, errno, want)
	}
	refused(t, "a disk of nothing", &disk.Disk{}, api.ErrFormat)
}

func TestOpenOfTheSmallestDisk(t *testing.T) { // V2, V3
	d := formatted(t, api.MinBlocks)
	s := opened(t, d)
	wants(t, "V3: there is no room", s, message("$1", "!r", "@a:home", strings.Repeat("a", 100)), full)
	wants(t, "V3", s, tick(1), ticked)
	wants(t, "V2", opened(t, d), tick(0), failed(141))
}

func TestOpenWithoutASnapshot(t *testing.T) { // V2
	s := opened(t, formatted(t, 20))
	same(t, "V2: a fresh engine", string(s.engine.Save()), savedBehind())
	wants(t, "V2", s, countsOf("@a:home"), `{"ok":true,"rooms":[]}`)
	s = opened(t, laid(t, 20, "", tick(5), setPusher("@a:home", "k")))
	same(t, "V2: records alone", string(s.engine.Save()), savedBehind(tick(5), setPusher("@a:home", "k")))
}

func TestOpenWithASnapshot(t *testing.T) { // V2
	whole := savedBehind(joins("$1", "!r", "@a:home"), setPusher("@a:home", "k"), tick(5))
	s := opened(t, laid(t, 60, whole))
	same(t, "V2: what was saved", string(s.engine.Save()), whole)
	wants(t, "V2", s, tick(4), failed(141))
	s = opened(t, laid(t, 60, whole, tick(9), joins("$2", "!r", "@b:home")))
	same(t, "V2: records behind a snapshot", string(s.engine.Save()), savedBehind(joins("$1", "!r", "@a:home"), setPusher("@a:home", "k"), tick(5), tick(9), joins("$2", "!r", "@b:home")))
	for _, snapshot := range []string{"x", "no engine", "\x00", whole[1:], whole[:len(whole)-1], whole + "\x00", whole + whole} {
		refused(t, "a wrong snapshot", laid(t, 60, snapshot), api.ErrBroken)
		refused(t, "a wrong snapshot, and a right record", laid(t, 60, snapshot, tick(9)), api.ErrBroken)
		refused(t, "a wrong snapshot, and a wrong record", laid(t, 60, snapshot, "x"), api.ErrBroken)
	}
	refused(t, "a right snapshot, and a wrong record", laid(t, 60, whole, "x"), api.ErrBroken)
}

func TestOpenOfSpoiltSnapshots(t *testing.T) { // V2
	whole := []byte(savedBehind(joins("$1", "!r", "@a:home"), joins("$2", "!r", "@b:home"), setPusher("@a:home", "k"), message("$3", "!r", "@b:home", "hi"), tick(5)))
	for at := range whole {
		for _, by := range []byte{1, 0x80, 0xff} {
			spoilt := slices.Clone(whole)
			spoilt[at] ^= by
			e, errno := engine.Load(spoilt)
			d := laid(t, 60, string(spoilt))
			if errno != api.OK {
				refused(t, "a snapshot that the engine refuses", d, api.ErrBroken)
				continue
			}
			same(t, "V2: a snapshot that the engine takes", string(opened(t, d).engine.Save()), string(e.Save()))
		}
	}
}

func TestOpenOfWrongRecords(t *testing.T) { // V2
	wrong := []string{
		"x", " ", "\x00", "{", `{"do":"tick","now":1}x`, `{"do":"tick","now":1.5}`, `{"do":"tick","do":"tick"}`, "\xff", "{\"do\":\"tick\",\"x\":\"\xff\"}", padded(1, 4097), padded(1, 6000),
		"null", "1", `"tick"`, "[]", `[{"do":"tick","now":1}]`, "{}", `{"do":1}`, `{"do":"x"}`, rulesOf("@a:home"), countsOf("@a:home"), countsIn("@a:home", "!r"), pushersOf("@a:home"), `{"do":"room","room":"!r"}`, `{"do":"room"}`,
	}
	for _, record := range wrong {
		refused(t, "a record "+short(record), laid(t, 400, "", record), api.ErrBroken)
		refused(t, "a right record, and behind it "+short(record), laid(t, 400, "", tick(1), record), api.ErrBroken)
		refused(t, "a right record behind "+short(record), laid(t, 400, "", record, tick(1)), api.ErrBroken)
	}
}

func TestOpenOfRecordsThatTheEngineRefuses(t *testing.T) { // V2
	s := opened(t, laid(t, 400, "", tick(5), tick(4), `{"do":"tick"}`, `{"do":"event"}`, `{"do":"reply","attempt":1,"result":"x"}`, joins("$1", "!r", "@a:home"), joins("$1", "!r", "@b:home"), ` { "now" : 6,"do":"tick" } `, padded(7, 4096)))
	same(t, "V2: what is refused changes nothing", string(s.engine.Save()), savedBehind(tick(5), joins("$1", "!r", "@a:home"), tick(7)))
}

// TestOpenOfSpoiltDisks: one byte is spoilt: the sums tell, and what is found is a beginning of what was done.
func TestOpenOfSpoiltDisks(t *testing.T) { // V2, P1
	d := formatted(t, 24)
	s := opened(t, d)
	known := []string{savedBehind()}
	commands := []string{joins("$1", "!r", "@a:home"), setPusher("@a:home", "k"), tick(2), padded(3, 300), tick(4), message("$2", "!r", "@b:home", "hi"), tick(5), tick(6)}
	for i, command := range commands {
		does(t, s, command)
		known = append(known, savedBehind(commands[:i+1]...))
	}
	if snapshot, records := recordsOn(t, d); snapshot == "" || len(records) < 2 {
		t.Fatalf("the journal was to be made small: %q, %q", snapshot, records)
	}
	for i := range d.Blocks() {
		for at := range api.BlockSize {
			for _, by := range []byte{1, 2, 0xff} {
				spoilt := d.Copy()
				block, _ := spoilt.Read(i)
				block[at] ^= by
				spoilt.Write(i, block)
				s, errno := Open(spoilt)
				if s == nil && errno == api.ErrFormat {
					continue
				}
				if s == nil || errno != api.OK || !slices.Contains(known, string(s.engine.Save())) {
					t.Fatalf("V2: block %d, byte %d: Open gives a server: %t, error %d", i, at, s != nil, errno)
				}
			}
		}
	}
}

func TestOpenAlongsideOthers(t *testing.T) { // V2, V5, P4
	d := formatted(t, 60)
	for now := range 10 {
		s := opened(t, d)
		wants(t, "V2", s, tick(now), ticked)
		if now%2 == 0 {
			same(t, "V5: Close", s.Close(), api.OK)
		}
	}
	like := d.Copy()
	for range 3 {
		wants(t, "V2", opened(t, d), countsIn("@a:home", "!r"), counters(0, 0))
	}
	alike(t, "V2: Open writes nothing", d, like)
}
