package disk

import (
	"bytes"
	"math"
	"math/rand"
	"strconv"
	"strings"
	"sync"
	"testing"
	"time"

	"tocsin/api"
)

// The calls as they were given.
var (
	_ func(int) (*Disk, api.Errno)          = New
	_ func(*Disk) int                       = (*Disk).Blocks
	_ func(*Disk, int) ([]byte, api.Errno)  = (*Disk).Read
	_ func(*Disk, int, []byte) api.Errno    = (*Disk).Write
	_ func(*Disk) api.Errno                 = (*Disk).Sync
	_ func(*Disk, int, api.Crash) api.Errno = (*Disk).Fuse
	_ func(*Disk, api.Crash) api.Errno      = (*Disk).Crash
	_ func(*Disk)                           = (*Disk).Restart
	_ func(*Disk) bool                      = (*Disk).Alive
	_ func(*Disk) (writes int, syncs int)   = (*Disk).Costs
	_ func(*Disk) int                       = (*Disk).Falls
	_ func(*Disk) *Disk                     = (*Disk).Copy
)

func made(t *testing.T, blocks int) *Disk {
	t.Helper()
	d, errno := New(blocks)
	if d == nil || errno != api.OK {
		t.Fatalf("D1: New(%d) gives a disk: %v, error %d; want one, and none", blocks, d != nil, errno)
	}
	return d
}

func answers(t *testing.T, what string, got, want api.Errno) {
	t.Helper()
	if got != want {
		t.Errorf("%s: error %d, want %d", what, got, want)
	}
}

func reads(t *testing.T, what string, d *Disk, i int, want string) {
	t.Helper()
	if b, errno := d.Read(i); string(b) != filled(want) || errno != api.OK {
		t.Errorf("%s: Read(%d) is %q, error %d; want %q and noughts", what, i, b, errno, want)
	}
}

// alike holds all that can be asked of a disk against its model.
func alike(t *testing.T, what string, d *Disk, m *model) {
	t.Helper()
	if d.Blocks() != len(m.lasting) || d.Alive() == m.off || d.Falls() != m.falls {
		t.Fatalf("D1, D4, D5: %s: %d blocks, alive %v, %d falls; want %d, %v, %d", what, d.Blocks(), d.Alive(), d.Falls(), len(m.lasting), !m.off, m.falls)
	}
	if writes, syncs := d.Costs(); writes != m.wrote || syncs != m.synced {
		t.Fatalf("D5: %s: costs of %d writes and %d syncs, want %d and %d", what, writes, syncs, m.wrote, m.synced)
	}
	for i := -1; i <= len(m.lasting); i++ {
		got, errno := d.Read(i)
		if want, wanted := m.read(i); string(got) != want || errno != wanted || errno != api.OK && got != nil {
			t.Fatalf("D2, D3, D4: %s: Read(%d) is %q, error %d; want %q, %d", what, i, got, errno, want, wanted)
		}
	}
}

// A call is done on a disk and on its model; its answers must be the same.
type call struct {
	name string
	do   func(*Disk) api.Errno
	like func(*model) api.Errno
}

func writing(i int, text string) call {
	return call{
		"Write(" + strconv.Itoa(i) + ", " + strconv.Quote(text) + ")",
		func(d *Disk) api.Errno { return d.Write(i, []byte(text)) },
		func(m *model) api.Errno { return m.write(i, text) },
	}
}

func syncing() call { return call{"Sync()", (*Disk).Sync, (*model).sync} }

func told(c api.Crash) string { return "{" + strconv.Itoa(c.Keep) + ", " + strconv.Itoa(c.Torn) + "}" }

func fusing(writes int, c api.Crash) call {
	return call{
		"Fuse(" + strconv.Itoa(writes) + ", " + told(c) + ")",
		func(d *Disk) api.Errno { return d.Fuse(writes, c) },
		func(m *model) api.Errno { return m.setFuse(writes, c) },
	}
}

func crashing(c api.Crash) call {
	return call{
		"Crash(" + told(c) + ")",
		func(d *Disk) api.Errno { return d.Crash(c) },
		func(m *model) api.Errno { return m.crashNow(c) },
	}
}

func restarting() call {
	return call{
		"Restart()",
		func(d *Disk) api.Errno { d.Restart(); return api.OK },
		func(m *model) api.Errno { m.restart(); return api.OK },
	}
}

func done(t *testing.T, what string, c call, d *Disk, m *model) {
	t.Helper()
	if got, want := c.do(d), c.like(m); got != want {
		t.Fatalf("D2, D3, D4: %s: error %d, want %d", what, got, want)
	}
	alike(t, what, d, m)
}

// someCalls: enough of them that every part of a disk is set, asked and lost by a few.
func someCalls() []call {
	return []call{
		writing(0, "abc"), writing(0, strings.Repeat("q", 64)), writing(7, "z"),
		writing(-1, "a"), writing(0, strings.Repeat("q", 65)),
		syncing(), restarting(),
		fusing(0, api.Crash{Keep: 1, Torn: 2}), fusing(1, api.Crash{Torn: 1}), fusing(2, api.Crash{Keep: 9}), fusing(-1, api.Crash{}),
		crashing(api.Crash{}), crashing(api.Crash{Keep: 1, Torn: 70}), crashing(api.Crash{Keep: -3, Torn: 2}),
	}
}

// walk tries all rows of calls behind those that made d, each on a copy, which d must not feel.
func walk(t *testing.T, what string, calls []call, d *Disk, m *model, depth int) {
	if depth == 0 {
		return
	}
	for _, c := range calls {
		row := what + " " + c.name
		other, like := d.Copy(), m.copied()
		done(t, row, c, other, like)
		walk(t, row, calls, other, like, depth-1)
		alike(t, "of a copy: "+row, d, m)
	}
}

func TestAllRowsOfCalls(t *testing.T) {
	walk(t, "", someCalls(), made(t, 8), newModel(8), 4)
}

// TestAllRowsWithoutCopies: the same rows, so that no fault of Copy hides another one.
func TestAllRowsWithoutCopies(t *testing.T) {
	calls := someCalls()
	n := len(calls)
	for k := range n * n * n * n {
		d, m := made(t, 8), newModel(8)
		row := ""
		for range 4 {
			c := calls[k%n]
			k /= n
			row += " " + c.name
			if got, want := c.do(d), c.like(m); got != want {
				t.Fatalf("D2, D3, D4: %s: error %d, want %d", row, got, want)
			}
		}
		alike(t, row, d, m)
	}
}

func someCrash(r *rand.Rand) api.Crash {
	extremes := []int{math.MinInt, -1, 0, 63, 64, 65, math.MaxInt}
	c := api.Crash{Keep: r.Intn(6) - 1, Torn: r.Intn(70) - 2}
	if r.Intn(4) == 0 {
		c.Keep = extremes[r.Intn(len(extremes))]
	}
	if r.Intn(4) == 0 {
		c.Torn = extremes[r.Intn(len(extremes))]
	}
	return c
}

func someCall(r *rand.Rand) call {
	switch k := r.Intn(20); {
	case k < 12:
		text := strings.Repeat(string(rune('a'+r.Intn(26))), r.Intn(67))
		return writing(r.Intn(11)-1, text)
	case k < 14:
		return syncing()
	case k < 16:
		return fusing(r.Intn(7)-1, someCrash(r))
	case k < 17:
		return crashing(someCrash(r))
	}
	return restarting()
}

// TestLongRowsOfCalls: of a disk and of copies that part from it, each of which goes its own way.
func TestLongRowsOfCalls(t *testing.T) {
	r := rand.New(rand.NewSource(4))
	for range 300 {
		disks, models := []*Disk{made(t, 9)}, []*model{newModel(9)}
		for step := range 200 {
			k := r.Intn(len(disks))
			if step%50 == 49 {
				disks, models = append(disks, disks[k].Copy()), append(models, models[k].copied())
			}
			c := someCall(r)
			done(t, c.name, c, disks[k], models[k])
		}
		for k := range disks {
			alike(t, "at the end", disks[k], models[k])
		}
	}
}

func TestHowManyBlocks(t *testing.T) {
	for _, blocks := range []int{math.MinInt, -8, -1, 0, 1, 7, 4097, 1 << 20, math.MaxInt} {
		if d, errno := New(blocks); d != nil || errno != api.ErrArg {
			t.Errorf("D1, P2: New(%d) gives a disk: %v, error %d; want none, and ErrArg", blocks, d != nil, errno)
		}
	}
	for _, blocks := range []int{8, 9, 100, 4095, 4096} {
		d := made(t, blocks)
		alike(t, "a new disk", d, newModel(blocks))
		d.Crash(api.Crash{})
		if d.Blocks() != blocks {
			t.Errorf("D1: without power: %d blocks, want %d", d.Blocks(), blocks)
		}
	}
}

func TestFirstAndLastBlock(t *testing.T) {
	for _, blocks := range []int{8, 4096} {
		d := made(t, blocks)
		for _, i := range []int{math.MinInt, -64, -1, blocks, blocks + 1, blocks * 64, math.MaxInt} {
			if b, errno := d.Read(i); b != nil || errno != api.ErrBlock {
				t.Errorf("D2, P2: of %d blocks Read(%d) is %q, error %d; want nothing, and ErrBlock", blocks, i, b, errno)
			}
			answers(t, "D2: Write beyond the blocks", d.Write(i, []byte("a")), api.ErrBlock)
		}
		for _, i := range []int{0, blocks - 1} {
			answers(t, "D2: Write", d.Write(i, []byte("edge"+strconv.Itoa(i))), api.OK)
		}
		for range 2 {
			reads(t, "D2", d, 0, "edge0")
			reads(t, "D2", d, 1, "")
			reads(t, "D2", d, blocks-2, "")
			reads(t, "D2", d, blocks-1, "edge"+strconv.Itoa(blocks-1))
			answers(t, "D3: Sync", d.Sync(), api.OK)
		}
	}
}

func TestLengthsOfWrites(t *testing.T) {
	d, m := made(t, 8), newModel(8)
	for length := range 70 {
		for _, c := range []call{writing(5, strings.Repeat("x", 64)), writing(5, strings.Repeat("y", length)), syncing()} {
			done(t, c.name, c, d, m)
		}
	}
	answers(t, "D2: Write of nil", d.Write(5, nil), api.OK)
	reads(t, "D2: behind a Write of nil", d, 5, "")
	answers(t, "D2: Write of very many bytes", d.Write(5, make([]byte, 1<<20)), api.ErrBlock)
}

func TestExamples(t *testing.T) {
	d := made(t, 8)
	d.Write(3, []byte("ab"))
	d.Write(3, []byte("cde"))
	reads(t, "D2: of two writes the last", d, 3, "cde")
	answers(t, "D4: Crash", d.Crash(api.Crash{Keep: 1}), api.OK)
	d.Restart()
	reads(t, "D4: of two writes one is kept", d, 3, "ab")
	d.Write(3, []byte("xyz"))
	d.Crash(api.Crash{Torn: 2})
	d.Restart()
	reads(t, "D4: a write that is torn", d, 3, "xy")
	answers(t, "D4: Fuse", d.Fuse(1, api.Crash{Keep: 9}), api.OK)
	answers(t, "D2: Write ahead of the fuse's", d.Write(0, []byte("p")), api.OK)
	answers(t, "D2: Write at which the power fails", d.Write(1, []byte("q")), api.ErrDead)
	d.Restart()
	reads(t, "D4: kept by the fuse's crash", d, 0, "p")
	reads(t, "D4: kept by the fuse's crash", d, 1, "q")
	if writes, syncs := d.Costs(); writes != 4 || syncs != 0 || d.Falls() != 3 {
		t.Errorf("D5: costs %d and %d, %d falls; want 4, 0, 3", writes, syncs, d.Falls())
	}
}

// TestEveryCrash: all that may be kept and torn of several writes, some of the same block, each way that the power may fail.
func TestEveryCrash(t *testing.T) {
	rows := []call{
		writing(2, strings.Repeat("o", 64)), writing(3, "old"), syncing(),
		writing(2, "one"), writing(3, strings.Repeat("n", 64)), writing(2, strings.Repeat("t", 64)), writing(2, "four"), writing(0, ""),
	}
	ways := []struct {
		name string
		row  func(api.Crash) []call
	}{
		{"by Crash", func(c api.Crash) []call { return []call{crashing(c)} }},
		{"at a Write", func(c api.Crash) []call { return []call{fusing(0, c), writing(2, "last")} }},
		{"at a later Write", func(c api.Crash) []call { return []call{fusing(1, c), writing(1, "a"), writing(2, "last")} }},
		{"at a Sync", func(c api.Crash) []call { return []call{fusing(0, c), syncing()} }},
		{"at a Sync behind a Write", func(c api.Crash) []call { return []call{fusing(1, c), writing(1, "a"), syncing()} }},
	}
	edges := []int{math.MinInt, -2, -1, 0, 1, 2, 3, 4, 5, 6, 7, 8, 62, 63, 64, 65, math.MaxInt}
	for _, way := range ways {
		for _, keep := range edges {
			for _, torn := range edges {
				d, m := made(t, 8), newModel(8)
				c := api.Crash{Keep: keep, Torn: torn}
				for _, c := range append(append(append([]call{}, rows...), way.row(c)...), restarting(), syncing()) {
					done(t, way.name+" "+c.name, c, d, m)
				}
				if d.Falls() != 1 {
					t.Errorf("D5: %s: %d falls, want 1", way.name, d.Falls())
				}
			}
		}
	}
}

func TestWithoutPower(t *testing.T) {
	d := made(t, 8)
	d.Write(0, []byte("kept"))
	d.Sync()
	d.Crash(api.Crash{})
	m := newModel(8)
	m.write(0, "kept")
	m.sync()
	m.crashNow(api.Crash{})
	for _, c := range []call{
		writing(0, "a"), writing(-1, "a"), writing(8, ""), writing(0, strings.Repeat("a", 65)), syncing(),
		fusing(0, api.Crash{}), fusing(-1, api.Crash{}), crashing(api.Crash{Keep: 1}),
	} {
		if errno := c.do(d); errno != api.ErrDead {
			t.Errorf("D2, D3, D4, P2: without power: %s: error %d, want ErrDead", c.name, errno)
		}
		alike(t, "without power: "+c.name, d, m)
	}
	for _, i := range []int{-1, 0, 7, 8} {
		if b, errno := d.Read(i); b != nil || errno != api.ErrDead {
			t.Errorf("D2, P2: without power: Read(%d) is %q, error %d; want nothing, and ErrDead", i, b, errno)
		}
	}
	d.Restart()
	answers(t, "D4: no fuse was set without power", d.Write(1, []byte("b")), api.OK)
	answers(t, "D4: no fuse was set without power", d.Sync(), api.OK)
	reads(t, "D4: what lasted", d, 0, "kept")
}

func TestFuses(t *testing.T) {
	d := made(t, 8)
	d.Fuse(0, api.Crash{Keep: 9})
	for _, e := range []api.Errno{d.Write(-1, nil), d.Write(8, nil), d.Write(0, make([]byte, 65))} {
		answers(t, "D2: a write that may not be, with a fuse of 0", e, api.ErrBlock)
	}
	answers(t, "D4: Fuse below 0", d.Fuse(-1, api.Crash{}), api.ErrArg)
	answers(t, "D4: Fuse far below 0", d.Fuse(math.MinInt, api.Crash{}), api.ErrArg)
	reads(t, "D2: Read with a fuse of 0", d, 0, "")
	if !d.Alive() {
		t.Errorf("D4: the power is off behind calls that blow no fuse")
	}
	answers(t, "D4, P2: the fuse of 0 is still set", d.Write(0, []byte("a")), api.ErrDead)
	d.Restart()
	reads(t, "D4: kept as the fuse that holds says", d, 0, "a")
	d.Fuse(0, api.Crash{})
	d.Fuse(2, api.Crash{Keep: 1, Torn: 1})
	answers(t, "D4: a fuse in the place of one of 0", d.Sync(), api.OK)
	answers(t, "D4: the first of two writes", d.Write(0, []byte("bb")), api.OK)
	answers(t, "D4: the second of two writes", d.Write(1, []byte("cc")), api.OK)
	answers(t, "D4: the write behind them", d.Write(2, []byte("dd")), api.ErrDead)
	d.Restart()
	for i, want := range []string{"bb", "c", ""} {
		reads(t, "D4: as the later fuse says", d, i, want)
	}
	d.Fuse(1, api.Crash{})
	d.Restart()
	for range 3 {
		answers(t, "D4: Restart with the power on takes the fuse away", d.Write(3, []byte("e")), api.OK)
	}
	reads(t, "D4: Restart with the power on leaves the writes", d, 3, "e")
	d.Restart()
	reads(t, "D4: Restart with the power on leaves the writes", d, 3, "e")
	d.Fuse(math.MaxInt, api.Crash{})
	answers(t, "D4: a fuse that is far away", d.Write(3, []byte("f")), api.OK)
	d.Crash(api.Crash{})
	d.Restart()
	reads(t, "D4: what was not synced is lost, Restart or not", d, 3, "")
	if writes, syncs := d.Costs(); writes != 6 || syncs != 1 || d.Falls() != 3 {
		t.Errorf("D5: costs %d and %d, %d falls; want 6, 1, 3", writes, syncs, d.Falls())
	}
}

// TestManyWritesOfOneBlock: whatever is kept of them, and whichever is torn, with one of another block among them.
func TestManyWritesOfOneBlock(t *testing.T) {
	for kept := range 132 {
		d, m := made(t, 8), newModel(8)
		for k := range 130 {
			c := writing(6, strings.Repeat(string(rune('0'+k)), k%65))
			if k == 70 {
				c = writing(7, "other")
			}
			done(t, c.name, c, d, m)
		}
		for _, c := range []call{crashing(api.Crash{Keep: kept, Torn: kept % 65}), restarting(), syncing()} {
			done(t, c.name, c, d, m)
		}
	}
}

// TestNothingIsShared: what is handed in is neither written into nor kept, and an answer is the caller's.
func TestNothingIsShared(t *testing.T) {
	d := made(t, 8)
	room := []byte("abcdefgh" + strings.Repeat("-", 100))
	before := bytes.Clone(room)
	answers(t, "D2: Write", d.Write(4, room[2:5]), api.OK)
	if !bytes.Equal(room, before) {
		t.Errorf("D2, P3: Write has made %q of what it was handed", room)
	}
	clear(room)
	reads(t, "D2, P3: behind writing into what was handed in", d, 4, "cde")
	for _, when := range []string{"not synced", "synced"} {
		a, _ := d.Read(4)
		b, _ := d.Read(4)
		for i := range a[:cap(a)] {
			a[:cap(a)][i] = '!'
		}
		if string(b) != filled("cde") {
			t.Errorf("D2, P3: %s: two answers share memory", when)
		}
		reads(t, "D2, P3: behind writing into an answer, "+when, d, 4, "cde")
		d.Sync()
	}
	full := []byte(strings.Repeat("f", 64))
	d.Write(0, full)
	d.Sync()
	clear(full)
	reads(t, "D2, P3: a whole block, behind writing into what was handed in", d, 0, strings.Repeat("f", 64))
}

// TestCopies: each part of a disk goes over, and then goes its own way.
func TestCopies(t *testing.T) {
	d := made(t, 8)
	d.Write(0, []byte("lasts"))
	d.Sync()
	d.Crash(api.Crash{})
	off := d.Copy()
	if off.Alive() || off.Falls() != 1 || off.Blocks() != 8 {
		t.Errorf("D5: the copy of a disk without power: alive %v, %d falls, %d blocks", off.Alive(), off.Falls(), off.Blocks())
	}
	d.Restart()
	if off.Alive() {
		t.Errorf("D5: the copy has power with the disk")
	}
	d.Write(1, []byte("one"))
	d.Write(0, []byte("two"))
	d.Fuse(1, api.Crash{Keep: 2, Torn: 1})
	first, second := d.Copy(), d.Copy()
	answers(t, "D5: the copy's fuse is not of 0", first.Write(2, []byte("three")), api.OK)
	answers(t, "D5: the copy's fuse", first.Sync(), api.ErrDead)
	first.Restart()
	for i, want := range []string{"two", "one", "t"} {
		reads(t, "D5: a copy whose power failed", first, i, want)
	}
	if !d.Alive() || d.Falls() != 1 || first.Falls() != 2 {
		t.Errorf("D5: the disk has fallen with its copy")
	}
	second.Restart()
	second.Write(0, []byte("mine"))
	answers(t, "D5: Sync of a copy", second.Sync(), api.OK)
	reads(t, "D5: a copy that went on", second, 0, "mine")
	reads(t, "D5: the disk behind it", d, 0, "two")
	d.Crash(api.Crash{})
	d.Restart()
	reads(t, "D5: what lasts on the disk", d, 0, "lasts")
	reads(t, "D5: what lasts on the disk", d, 1, "")
	for i, want := range []string{"mine", "one", ""} {
		reads(t, "D5: what lasts on the copy", second, i, want)
	}
	if writes, syncs := second.Costs(); writes != 4 || syncs != 2 {
		t.Errorf("D5: the copy's costs are %d and %d, want 4 and 2", writes, syncs)
	}
	if writes, syncs := d.Costs(); writes != 3 || syncs != 1 {
		t.Errorf("D5: the disk's costs are %d and %d, want 3 and 1", writes, syncs)
	}
}

// TestCopiesOfCopiesWrite: the spare room of one row of writes is not that of another.
func TestCopiesOfCopiesWrite(t *testing.T) {
	d := made(t, 8)
	for k := range 40 {
		d.Write(k%8, []byte("old"))
		a, b := d.Copy(), d.Copy()
		a.Write(1, []byte("a"))
		b.Write(1, []byte("b"))
		c := a.Copy()
		c.Write(1, []byte("c"))
		d.Write(1, []byte("d"))
		for who, want := range map[*Disk]string{a: "a", b: "b", c: "c", d: "d"} {
			reads(t, "D5, P4: a copy's own write", who, 1, want)
			if who != d {
				who.Sync()
				reads(t, "D5, P4: a copy's own write", who, 1, want)
			}
		}
	}
}

// TestManyWrites: how long Read takes does not hang on how many writes are not synced.
func TestManyWrites(t *testing.T) {
	start := time.Now()
	d := made(t, 4096)
	for k := range 200000 {
		d.Write(k%4096, []byte(strconv.Itoa(k)))
		d.Read((k + 1) % 4096)
	}
	for i := range 4096 {
		k := 200000 - 1 - (200000-1-i)%4096
		reads(t, "D2: of many writes the last", d, i, strconv.Itoa(k))
	}
	d.Crash(api.Crash{Keep: 150000, Torn: 2})
	d.Restart()
	reads(t, "D4: of many writes those that are kept", d, 149999%4096, "149999")
	reads(t, "D4: of many writes the one that is torn", d, 150000%4096, "15"+strconv.Itoa(150000 - 4096)[2:])
	if took := time.Since(start); took > 20*time.Second {
		t.Errorf("P1: many writes and reads took %v", took)
	}
}

// TestDisksAtOnce: disks have nothing to do with one another, and many may ask one at the same time.
func TestDisksAtOnce(t *testing.T) {
	shared := made(t, 8)
	shared.Write(0, []byte("shared"))
	var all sync.WaitGroup
	for k := range 8 {
		all.Go(func() {
			d := shared.Copy()
			text := strconv.Itoa(k)
			for range 200 {
				d.Write(0, []byte(text))
				d.Sync()
				d.Crash(api.Crash{})
				d.Restart()
				reads(t, "P4: disks at once", d, 0, text)
				reads(t, "P4: many who read", shared, 0, "shared")
			}
		})
	}
	all.Wait()
}
