package journal

import (
	"bytes"
	"fmt"
	"math/rand"
	"slices"
	"strings"
	"sync"
	"testing"
	"time"

	"tocsin/api"
	"tocsin/disk"
)

// The calls as they were given.
var (
	_ func(*disk.Disk) api.Errno                               = Format
	_ func(*disk.Disk) (*Journal, []byte, [][]byte, api.Errno) = Open
	_ func(*Journal, []byte) api.Errno                         = (*Journal).Append
	_ func(*Journal, []byte) api.Errno                         = (*Journal).Compact
	_ func(*Journal) int                                       = (*Journal).Room
)

func blank(t *testing.T, blocks int) *disk.Disk {
	t.Helper()
	d, errno := disk.New(blocks)
	if errno != api.OK {
		t.Fatalf("D1: New(%d): error %d", blocks, errno)
	}
	return d
}

func open(t *testing.T, d *disk.Disk) *Journal {
	t.Helper()
	j, _, _, errno := Open(d)
	if j == nil || errno != api.OK {
		t.Fatalf("L2: Open gives a journal: %v, error %d; want one, and none", j != nil, errno)
	}
	return j
}

func formatted(t *testing.T, blocks int) (*disk.Disk, *Journal) {
	t.Helper()
	d := blank(t, blocks)
	answers(t, "L1: Format", Format(d), api.OK)
	return d, open(t, d)
}

func answers(t *testing.T, what string, got, want api.Errno) {
	t.Helper()
	if got != want {
		t.Errorf("%s: error %d, want %d", what, got, want)
	}
}

func lay(t *testing.T, d *disk.Disk, i int, text string) {
	t.Helper()
	answers(t, "D2: Write", d.Write(i, []byte(text)), api.OK)
}

// layArea lays bytes on an area from its beginning on.
func layArea(t *testing.T, d *disk.Disk, area int, text string) {
	t.Helper()
	from := 2 + area*((d.Blocks()-2)/2)
	for p := 0; p < len(text); p += 64 {
		lay(t, d, from+p/64, text[p:min(p+64, len(text))])
	}
}

func texts(records [][]byte) []string {
	var out []string
	for _, r := range records {
		out = append(out, string(r))
	}
	return out
}

// tells holds what Open tells of a disk against a state.
func tells(t *testing.T, what string, d *disk.Disk, want state) {
	t.Helper()
	j, snapshot, records, errno := Open(d)
	if want.generation == 0 {
		if j != nil || snapshot != nil || records != nil || errno != api.ErrFormat {
			t.Fatalf("L2, P2: %s: Open is %v, %q, %q, error %d; want nothing, and ErrFormat", what, j != nil, snapshot, records, errno)
		}
		return
	}
	if j == nil || errno != api.OK || string(snapshot) != want.snapshot || !slices.Equal(texts(records), want.records) {
		t.Fatalf("L2: %s: Open is %q, %q, error %d; want %v", what, snapshot, records, errno, want)
	}
	if got, room := j.Room(), (make(image, d.Blocks())).room(want); got != room {
		t.Fatalf("L5: %s: Room is %d, want %d", what, got, room)
	}
}

// alike holds a disk against one on which the steps of the document were played.
func alike(t *testing.T, what string, d, like *disk.Disk) {
	t.Helper()
	writes, syncs := d.Costs()
	w, s := like.Costs()
	if writes != w || syncs != s || d.Alive() != like.Alive() || d.Falls() != like.Falls() {
		t.Fatalf("L1, L3, L4: %s: %d writes, %d syncs, alive %v, %d falls; want %d, %d, %v, %d", what, writes, syncs, d.Alive(), d.Falls(), w, s, like.Alive(), like.Falls())
	}
	for i := range d.Blocks() {
		got, _ := d.Read(i)
		want, _ := like.Read(i)
		if !bytes.Equal(got, want) {
			t.Fatalf("L1, L3, L4: %s: block %d is %q, want %q", what, i, got, want)
		}
	}
}

// done does a call on a journal, and the steps of the document on a copy of its disk.
func done(t *testing.T, what string, c call, d *disk.Disk, j *Journal, s state) state {
	t.Helper()
	steps, behind, want := c.steps(imageOf(t, d), s)
	like := d.Copy()
	answers(t, "D2, D3: steps", play(like, steps), api.OK)
	if got := c.do(d, j); got != want {
		t.Fatalf("L1, L3, L4: %s: error %d, want %d", what, got, want)
	}
	alike(t, what, d, like)
	return behind
}

func sign(k, n int) string { return strings.Repeat(string(rune('a'+k%26)), n) }

func TestExamples(t *testing.T) {
	d, j := formatted(t, 8)
	reads := func(what string, i int, want string) {
		t.Helper()
		if b, _ := d.Read(i); string(b) != want {
			t.Errorf("%s: block %d is %q, want %q", what, i, b, want)
		}
	}
	costs := func(what string, writes, syncs int) {
		t.Helper()
		if w, s := d.Costs(); w != writes || s != syncs {
			t.Errorf("%s: %d writes and %d syncs so far, want %d and %d", what, w, s, writes, syncs)
		}
	}
	room := func(what string, want int) {
		t.Helper()
		if got := j.Room(); got != want {
			t.Errorf("%s: Room is %d, want %d", what, got, want)
		}
	}
	reads("L1", 0, noughts(64))
	reads("L1", 1, string([]byte{116, 111, 99, 115, 105, 110, 0, 0, 1, 0, 0, 0, 0, 0, 0, 0, 197, 157, 28, 129})+noughts(44))
	reads("L1", 2, noughts(64))
	costs("L1", 4, 4)
	room("L5", 185)
	answers(t, "L3", j.Append([]byte{97, 98}), api.OK)
	reads("L3", 2, string([]byte{1, 2, 0, 202, 5, 37, 77, 97, 98})+noughts(55))
	costs("L3: block 2 is written twice", 6, 6)
	room("L5", 176)
	snapshot := sign(18, 100)
	answers(t, "L4", j.Compact([]byte(snapshot)), api.OK)
	reads("L4", 5, snapshot[:64])
	reads("L4", 6, snapshot[64:]+noughts(28))
	reads("L4", 7, noughts(64))
	reads("L4", 0, headOf(2, 1, snapshot))
	reads("L4: the old head stays", 1, headOf(1, 0, ""))
	costs("L4: blocks 5 and 6, then block 0, twice", 10, 9)
	room("L5", 85)
	for range 3 {
		answers(t, "L4", j.Compact([]byte("old")), api.OK)
	}
	tells(t, "of generation 5", d, state{generation: 5, end: 3, snapshot: "old"})
	answers(t, "L1", Format(d), api.OK)
	reads("L1: of generation 5: area 1", 5, noughts(64))
	reads("L1: of generation 5: the head", 0, headOf(6, 1, ""))
	reads("L1: of generation 5: the old head stays", 1, headOf(5, 0, "old"))
}

// lengths of what ends at the edges of blocks and of the area, at and around them.
func lengths(size, from int) []int {
	var out []int
	for at := 0; at <= size; at += 64 {
		for n := at - from - 2; n <= at-from+2; n++ {
			if n > 0 && n <= size-from {
				out = append(out, n)
			}
		}
	}
	return out
}

// bases are disks that hold journals whose records end at all sorts of places, and what they hold.
func bases(t *testing.T) (disks []*disk.Disk) {
	t.Helper()
	for _, ahead := range []int{0, 1, 57, 58, 63, 64, 65, 100, 120, 127, 128, 170, 183, 184, 185, 186, 191, 192} {
		for _, generation := range []int{2, 3} {
			d := blank(t, 8)
			s := state{generation: generation, area: generation % 2}
			for i := range 8 {
				lay(t, d, i, sign(16, 64)) // of an earlier life
			}
			play(d, imageOf(t, d).writing(s.area, 0, sign(18, ahead)))
			lay(t, d, generation%2, headOf(generation, s.area, sign(18, ahead)))
			if generation == 3 {
				open(t, d).Append([]byte("old"))
			}
			d.Sync()
			disks = append(disks, d)
		}
	}
	return disks
}

// someCalls are those that may matter behind the place p of an area of 192 bytes.
func someCalls(p int) []call {
	calls := []call{formatting(), compacting(""), appending(""), appending(sign(1, 6000)), appending(sign(1, 6001)), compacting(sign(2, 193))}
	for k, n := range lengths(192, 0) {
		calls = append(calls, compacting(sign(k, n)))
	}
	for k, n := range lengths(192, p+7) {
		calls = append(calls, appending(sign(k, n)))
	}
	return append(calls, appending(sign(3, max(192-p-6, 1))))
}

// TestWhatIsWritten: of each call on each journal the bytes of the whole disk, and what is answered.
func TestWhatIsWritten(t *testing.T) {
	for _, base := range bases(t) {
		s := imageOf(t, base).held()
		tells(t, "a base", base, s)
		for _, c := range someCalls(s.end) {
			what := fmt.Sprintf("on %v: %s", s, c.name)
			d := base.Copy()
			behind := done(t, what, c, d, open(t, d), s)
			tells(t, what, d, behind)
		}
	}
}

// failing gives ways in which power fails in the midst of a call of so many writes.
func failing(writes int, torn []int) (fuses []int, crashes []api.Crash) {
	for n := range writes + 1 {
		fuses = append(fuses, n)
	}
	for keep := -1; keep <= min(writes, 5); keep++ {
		for _, k := range torn {
			crashes = append(crashes, api.Crash{Keep: keep, Torn: k})
		}
	}
	return fuses, crashes
}

func writesOf(steps []step) (n int) {
	for _, s := range steps {
		if !s.sync {
			n++
		}
	}
	return n
}

// fails lets the power fail in the midst of a call, and holds the disk against one on which the steps were played; then what Open tells against what was ahead of the call and behind it.
func fails(t *testing.T, c call, base *disk.Disk, s state, torn []int) {
	t.Helper()
	steps, behind, errno := c.steps(imageOf(t, base), s)
	if errno != api.OK {
		return
	}
	fuses, crashes := failing(writesOf(steps), torn)
	for _, fuse := range fuses {
		for _, crash := range crashes {
			what := fmt.Sprintf("on %v: %s with a fuse of %d and %v", s, c.name, fuse, crash)
			d, like := base.Copy(), base.Copy()
			var j *Journal
			if s.generation > 0 {
				j = open(t, d)
			}
			d.Fuse(fuse, crash)
			like.Fuse(fuse, crash)
			want := play(like, steps)
			if got := c.do(d, j); got != want || got != api.OK && got != api.ErrDead {
				t.Fatalf("L1, L3, L4: %s: error %d, want %d", what, got, want)
			}
			fallen := !d.Alive()
			d.Restart()
			like.Restart()
			alike(t, what, d, like)
			if fallen && j != nil && !isBroken(j, d) {
				t.Fatalf("L5: %s: the journal goes on", what)
			}
			found := imageOf(t, d).held()
			tells(t, what, d, found)
			if found.String() != behind.String() && (want == api.OK || found.String() != s.String()) {
				t.Fatalf("L6: %s: error %d, and then there is %v", what, want, found)
			}
		}
	}
}

// isBroken tells whether a journal is, and leaves its disk alone.
func isBroken(j *Journal, d *disk.Disk) bool {
	writes, syncs := d.Costs()
	broken := j.Room() == -1
	for _, errno := range []api.Errno{j.Append([]byte("x")), j.Append(nil), j.Append(make([]byte, 6001)), j.Append(make([]byte, 6000)), j.Compact(nil), j.Compact([]byte("x")), j.Compact(make([]byte, 64*d.Blocks()))} {
		broken = broken && errno == api.ErrDead
	}
	w, s := d.Costs()
	return broken && j.Room() == -1 && writes == w && syncs == s
}

// TestFailuresInCalls: the power fails at each write and each sync of each call, whatever stays.
func TestFailuresInCalls(t *testing.T) {
	for _, base := range bases(t) {
		s := imageOf(t, base).held()
		for _, c := range someCalls(s.end) {
			fails(t, c, base, s, []int{-1, 0, 1, 7, 8, 13, 63, 64})
		}
	}
}

// TestFailuresByteByByte: each write is torn at each byte.
func TestFailuresByteByByte(t *testing.T) {
	var all []int
	for torn := range 66 {
		all = append(all, torn)
	}
	fails(t, formatting(), blank(t, 8), state{}, all)
	d, j := formatted(t, 8)
	j.Append([]byte("first"))
	for _, snapshot := range []string{"", sign(1, 70), "ab"} {
		s := imageOf(t, d).held()
		for _, c := range []call{formatting(), appending(sign(2, 60)), appending("x"), appending(sign(3, 45)), compacting("snap"), compacting(s.snapshot), compacting(sign(4, 128))} {
			fails(t, c, d, s, all)
		}
		j.Compact([]byte(snapshot))
		j.Append([]byte("second"))
	}
}

// TestFormatOfOddDisks: of blocks that hold no journal, though they nearly do.
func TestFormatOfOddDisks(t *testing.T) {
	for name, blocks := range map[string]image{
		"noughts":                            {"", "", "", "", "", "", "", ""},
		"signs":                              {sign(1, 64), sign(2, 64), sign(3, 64), sign(4, 64), sign(5, 64), sign(6, 64), sign(7, 64), sign(8, 64)},
		"a head that noughts make right":     {headOf(6, 0, noughts(64)), "", "a", "", "", "", "", ""},
		"two heads that noughts make right":  {headOf(6, 0, noughts(64)), headOf(7, 0, noughts(10)), "a", "", "", "", "", ""},
		"a record where the area begins":     {"", "", recordOf("one"), "", "", recordOf("two"), "", ""},
		"a head without its first byte":      {"", "\x00" + headOf(1, 0, "")[1:], recordOf("one"), "", "", "", "", ""},
		"a head of the wrong block, greater": {headOf(9, 0, ""), headOf(8, 0, ""), "", "", "", "", "", ""},
	} {
		d := blank(t, 8)
		for i, text := range blocks {
			lay(t, d, i, text)
		}
		d.Sync()
		tells(t, name, d, state{})
		like := d.Copy()
		behind := done(t, "Format of "+name, formatting(), d, nil, state{})
		tells(t, "formatted: "+name, d, behind)
		if behind.generation != 1 || behind.area != 0 {
			t.Errorf("L1: Format of %s makes %v", name, behind)
		}
		fuses, crashes := failing(4, []int{0, 1, 8, 20, 64})
		for _, fuse := range fuses {
			for _, crash := range crashes {
				what := fmt.Sprintf("Format of %s with a fuse of %d and %v", name, fuse, crash)
				d, steps := like.Copy(), like.Copy()
				played, _, _ := imageOf(t, d).formatting()
				d.Fuse(fuse, crash)
				steps.Fuse(fuse, crash)
				if got, want := Format(d), play(steps, played); got != want {
					t.Fatalf("L1: %s: error %d, want %d", what, got, want)
				}
				d.Restart()
				steps.Restart()
				alike(t, what, d, steps)
				tells(t, what, d, imageOf(t, d).held())
			}
		}
	}
}

func TestRecordsAtTheEdges(t *testing.T) {
	for _, c := range []struct {
		blocks, ahead, length int
		errno                 api.Errno
		room                  int // behind it
	}{
		{8, 0, 0, api.ErrRecord, 185}, {8, 0, 1, api.OK, 177}, {8, 0, 57, api.OK, 121}, {8, 0, 56, api.OK, 122}, {8, 0, 58, api.OK, 120},
		{8, 0, 176, api.OK, 2}, {8, 0, 177, api.OK, 1}, {8, 0, 178, api.OK, -1}, {8, 0, 184, api.OK, -1}, {8, 0, 185, api.OK, -1},
		{8, 0, 186, api.ErrFull, 185}, {8, 0, 6000, api.ErrFull, 185}, {8, 0, 6001, api.ErrRecord, 185},
		{8, 184, 1, api.OK, -1}, {8, 184, 2, api.ErrFull, 1}, {8, 185, 1, api.ErrFull, -1}, {8, 185, 0, api.ErrRecord, -1}, {8, 192, 1, api.ErrFull, -1}, {8, 192, 6001, api.ErrRecord, -1},
		{9, 0, 185, api.OK, -1}, {9, 0, 186, api.ErrFull, 185}, {10, 0, 186, api.OK, 56}, {11, 0, 249, api.OK, -1}, {11, 0, 250, api.ErrFull, 249},
		{400, 0, 5999, api.OK, 6000}, {400, 0, 6000, api.OK, 6000}, {400, 0, 6001, api.ErrRecord, 6000},
		{190, 0, 6000, api.OK, 2}, {190, 9, 6000, api.OK, -1}, {190, 10, 6000, api.ErrFull, 5999}, {190, 10, 5999, api.OK, -1}, {190, 10, 6001, api.ErrRecord, 5999},
		{4096, 131008 - 6007, 6000, api.OK, -1}, {4096, 131008 - 6008, 6000, api.OK, -1}, {4096, 131008 - 6015, 6000, api.OK, 1}, {4096, 131008, 1, api.ErrFull, -1},
	} {
		what := fmt.Sprintf("L3, L5: %d blocks, a snapshot of %d: Append of %d", c.blocks, c.ahead, c.length)
		d, j := formatted(t, c.blocks)
		answers(t, what+": Compact", j.Compact(make([]byte, c.ahead)), api.OK)
		s := imageOf(t, d).held()
		answers(t, what, func() api.Errno { _, _, e := imageOf(t, d).appending(s, sign(5, c.length)); return e }(), c.errno)
		s = done(t, what, appending(sign(5, c.length)), d, j, s)
		if j.Room() != c.room {
			t.Errorf("%s: Room is %d, want %d", what, j.Room(), c.room)
		}
		tells(t, what, d, s)
	}
}

func TestSnapshotsAtTheEdges(t *testing.T) {
	for _, blocks := range []int{8, 9, 10, 11, 64, 65, 4095, 4096} {
		size := (blocks - 2) / 2 * 64
		d, j := formatted(t, blocks)
		s := imageOf(t, d).held()
		for k, n := range []int{0, 1, 63, 64, 65, size - 65, size - 64, size - 8, size - 7, size - 1, size, size + 1, size + 64, 2 * size, 0, size} {
			c := compacting(sign(k, n))
			what := fmt.Sprintf("%d blocks: %s", blocks, c.name)
			if _, _, errno := c.steps(imageOf(t, d), s); (errno == api.ErrFull) != (n > size) {
				t.Fatalf("L4: %s: error %d is wanted", what, errno)
			}
			s = done(t, what, c, d, j, s)
			tells(t, what, d, s)
			s = done(t, what+" and Append", appending("y"), d, j, s)
			tells(t, what+" and Append", d, s)
		}
	}
}

// TestTheLastBlockOfAnOddDisk: it belongs to no area, and whatever lies there stays.
func TestTheLastBlockOfAnOddDisk(t *testing.T) {
	for _, blocks := range []int{9, 11, 4095} {
		d := blank(t, blocks)
		lay(t, d, blocks-1, "mine")
		d.Sync()
		answers(t, "L1: Format", Format(d), api.OK)
		j := open(t, d)
		size := (blocks - 2) / 2 * 64
		for range 2 {
			answers(t, "L4: Compact of S bytes", j.Compact(bytes.Repeat([]byte("s"), size)), api.OK)
			answers(t, "L4: Compact of one byte more", j.Compact(make([]byte, size+1)), api.ErrFull)
		}
		answers(t, "L4: Compact", j.Compact(make([]byte, size-8)), api.OK)
		answers(t, "L3: Append up to the last byte", j.Append([]byte("z")), api.OK)
		if b, _ := d.Read(blocks - 1); string(b) != filled("mine") {
			t.Errorf("L3, L4: of %d blocks the last is %q", blocks, b)
		}
	}
}

func TestHeadsThatAreNotRight(t *testing.T) {
	d, j := formatted(t, 8)
	j.Compact([]byte("snap"))
	j.Append([]byte("one"))
	right := headOf(2, 1, "snap")
	one := state{generation: 2, area: 1, end: 14, snapshot: "snap", records: []string{"one"}}
	tells(t, "a right head", d, one)
	old := state{generation: 1}
	for at := range 64 {
		for turned := 1; turned < 256; turned++ {
			b := []byte(right)
			b[at] ^= byte(turned)
			lay(t, d, 0, string(b))
			want := imageOf(t, d).held()
			if at < 8 || at >= 12 {
				want = old // a byte of the generation alone may be another one
			}
			tells(t, fmt.Sprintf("byte %d of the head is %d", at, b[at]), d, want)
		}
	}
	none := blank(t, 8)
	for name, c := range map[string]struct {
		k    int
		head string
		want state
	}{
		"generation 0":                   {0, headOf(0, 0, ""), state{}},
		"generation 1":                   {1, headOf(1, 0, ""), state{generation: 1}},
		"generation 1 in block 0":        {0, headOf(1, 0, ""), state{}},
		"generation 2":                   {0, headOf(2, 0, ""), state{generation: 2}},
		"generation 2 in block 1":        {1, headOf(2, 0, ""), state{}},
		"generation 256":                 {0, headOf(256, 1, ""), state{generation: 256, area: 1}},
		"generation 65537":               {1, headOf(65537, 1, ""), state{generation: 65537, area: 1}},
		"generation 999999998":           {0, headOf(999999998, 0, ""), state{generation: 999999998}},
		"generation 999999999":           {1, headOf(999999999, 0, ""), state{generation: 999999999}},
		"generation 999999999, block 0":  {0, headOf(999999999, 0, ""), state{}},
		"generation 1000000000":          {0, headOf(1000000000, 0, ""), state{}},
		"generation 1000000001":          {1, headOf(1000000001, 0, ""), state{}},
		"generation 2147483648":          {0, headOf(1<<31, 0, ""), state{}},
		"generation 4294967295":          {1, headOf(1<<32-1, 0, ""), state{}},
		"area 2":                         {1, headOf(1, 2, ""), state{}},
		"area 255":                       {1, headOf(1, 255, ""), state{}},
		"a snapshot of S bytes":          {1, headOf(1, 0, noughts(192)), state{generation: 1, end: 192, snapshot: noughts(192)}},
		"a snapshot of S bytes, area 1":  {1, headOf(1, 1, noughts(192)), state{generation: 1, area: 1, end: 192, snapshot: noughts(192)}},
		"a snapshot of S + 1 bytes":      {1, headOf(1, 0, noughts(193)), state{}},
		"a snapshot of both areas":       {1, headOf(1, 0, noughts(384)), state{}},
		"the sum of another snapshot":    {1, headOf(1, 0, "abc"), state{}},
		"a head with capitals":           {1, "T" + headOf(1, 0, "")[1:], state{}},
		"a head with something behind":   {1, headOf(1, 0, "")[:63] + "x", state{}},
		"a length that is below 0":       {1, headOf(1, 0, "")[:12] + "\xff\xff\xff\xff" + headOf(1, 0, "")[16:], state{}},
		"a length of 2147483648":         {1, headOf(1, 0, "")[:12] + "\x00\x00\x00\x80" + headOf(1, 0, "")[16:], state{}},
		"a sum with the high byte first": {1, headOf(1, 0, "")[:16] + "\x81\x1c\x9d\xc5" + noughts(44), state{}},
	} {
		d := none.Copy()
		lay(t, d, c.k, c.head)
		tells(t, name, d, c.want)
	}
}

func TestTwoHeads(t *testing.T) {
	for _, c := range []struct{ even, odd int }{
		{2, 1}, {2, 3}, {256, 255}, {256, 1}, {256, 65535}, {254, 511}, {65536, 65535}, {65536, 257}, {16777216, 16777215}, {999999998, 999999999}, {999999998, 999999997}, {2, 999999999}, {999999998, 1},
	} {
		for _, area := range []int{0, 1} {
			d := blank(t, 8)
			even := state{generation: c.even, area: area, end: 4, snapshot: "even"}
			odd := state{generation: c.odd, area: 1 - area, end: 3, snapshot: "odd"}
			lay(t, d, 0, headOf(even.generation, area, "even"))
			lay(t, d, 1, headOf(odd.generation, 1-area, "odd"))
			layArea(t, d, area, "even")
			layArea(t, d, 1-area, "odd")
			greater, lesser := even, odd
			if odd.generation > even.generation {
				greater, lesser = odd, even
			}
			what := fmt.Sprintf("heads of %d and %d", c.even, c.odd)
			tells(t, what, d, greater)
			layArea(t, d, lesser.area, "x")
			tells(t, what+", the lesser with a wrong sum", d, greater)
			layArea(t, d, lesser.area, lesser.snapshot)
			layArea(t, d, greater.area, "x")
			tells(t, what+", the greater with a wrong sum", d, lesser)
			layArea(t, d, lesser.area, "x")
			tells(t, what+", both with wrong sums", d, state{})
		}
	}
	d := blank(t, 8) // both on one area
	lay(t, d, 0, headOf(8, 0, "a"))
	lay(t, d, 1, headOf(7, 0, "ab"))
	layArea(t, d, 0, "ab")
	tells(t, "two heads of one area", d, state{generation: 8, end: 1, snapshot: "a"})
	done(t, "Compact behind two heads of one area", compacting("c"), d, open(t, d), imageOf(t, d).held())
	tells(t, "Compact behind two heads of one area", d, state{generation: 9, area: 1, end: 1, snapshot: "c"})
}

func TestRecordsThatDoNotStand(t *testing.T) {
	first, third := recordOf("first"), recordOf("third")
	flagged := func(flag int) string { return low(flag, 1) + recordOf("second")[1:] }
	measured := func(n int) string { return "\x01" + low(n, 2) + recordOf("second")[3:] }
	for name, second := range map[string]string{
		"flag 0":              flagged(0),
		"flag 2":              flagged(2),
		"flag 3":              flagged(3),
		"flag 255":            flagged(255),
		"length 0":            "\x01\x00\x00" + low(sumOf(""), 4),
		"length 5":            measured(5),
		"length 7":            measured(7),
		"length 6 + 256":      measured(6 + 256),
		"length 65535":        measured(65535),
		"a wrong sum":         recordOf("second")[:3] + low(sumOf("second")+1, 4) + "second",
		"a wrong high byte":   recordOf("second")[:6] + "\x00" + "second",
		"other data":          recordOf("second")[:7] + "seconD",
		"noughts":             noughts(13),
		"a flag alone":        "\x01" + noughts(12),
		"a sum that turns":    recordOf("second")[:3] + string([]byte{recordOf("second")[6], recordOf("second")[5], recordOf("second")[4], recordOf("second")[3]}) + "second",
		"the sum of no bytes": recordOf("second")[:3] + low(sumOf(""), 4) + "second",
	} {
		d, _ := formatted(t, 8)
		layArea(t, d, 0, first+second+third)
		tells(t, name, d, state{generation: 1, end: len(first), records: []string{"first"}})
		s := done(t, "Append behind "+name, appending("other"), d, open(t, d), imageOf(t, d).held())
		if !slices.Equal(s.records, []string{"first", "other"}) {
			t.Errorf("L3: %s: then there are %q", name, s.records)
		}
		tells(t, "Append behind "+name, d, s)
	}
	d, _ := formatted(t, 8)
	layArea(t, d, 0, first+recordOf("second")+third)
	tells(t, "three records", d, state{generation: 1, end: 37, records: []string{"first", "second", "third"}})
}

// TestRecordsUpToTheLastByte: a record stands, if the area has its last byte.
func TestRecordsUpToTheLastByte(t *testing.T) {
	for _, c := range []struct {
		blocks, ahead, length int
		stands                bool
	}{
		{8, 0, 185, true}, {8, 0, 186, false}, {8, 184, 1, true}, {8, 184, 2, false}, {8, 185, 1, false}, {8, 183, 1, true}, {8, 191, 1, false}, {8, 100, 85, true}, {8, 100, 86, false},
		{9, 0, 185, true}, {9, 0, 186, false}, {400, 0, 6000, true}, {400, 0, 6001, false}, {400, 6000, 6000, true}, {400, 6000, 6001, false},
	} {
		for area := range 2 {
			d := blank(t, c.blocks)
			snapshot := sign(1, c.ahead)
			lay(t, d, 1, headOf(1, area, snapshot))
			size := (c.blocks - 2) / 2 * 64
			row := snapshot + recordOf(sign(2, c.length))
			layArea(t, d, area, row[:min(len(row), size)])
			if area == 0 && len(row) > size { // what would be its end stands in the other area
				layArea(t, d, 1, row[size:])
			}
			want := state{generation: 1, area: area, end: c.ahead, snapshot: snapshot}
			if c.stands {
				want.records, want.end = []string{sign(2, c.length)}, len(row)
			}
			tells(t, fmt.Sprintf("%d blocks, a snapshot of %d, a record of %d", c.blocks, c.ahead, c.length), d, want)
		}
	}
}

func TestTheLastGeneration(t *testing.T) {
	d, _ := formatted(t, 8)
	lay(t, d, 0, headOf(999999998, 0, ""))
	j := open(t, d)
	s := imageOf(t, d).held()
	s = done(t, "Append at 999999998", appending("a"), d, j, s)
	s = done(t, "Compact at 999999998", compacting("last"), d, j, s)
	tells(t, "999999999", d, state{generation: 999999999, area: 1, end: 4, snapshot: "last"})
	for _, c := range []call{compacting(""), compacting("x"), compacting(sign(1, 193)), formatting()} {
		if _, _, errno := c.steps(imageOf(t, d), s); errno != api.ErrFull {
			t.Fatalf("L1, L4: %s at 999999999: error %d is wanted", c.name, errno)
		}
		s = done(t, c.name+" at 999999999", c, d, j, s)
	}
	s = done(t, "Append at 999999999", appending("b"), d, j, s)
	tells(t, "Append at 999999999", d, state{generation: 999999999, area: 1, end: 12, snapshot: "last", records: []string{"b"}})
	d.Fuse(0, api.Crash{})
	answers(t, "L4, P2: Compact at 999999999 with a fuse of 0", j.Compact(nil), api.ErrFull)
	answers(t, "L1, P2: Format at 999999999 with a fuse of 0", Format(d), api.ErrFull)
	if !d.Alive() {
		t.Errorf("P2: a refused call has written or synced")
	}
	d.Crash(api.Crash{})
	answers(t, "L1, P2: Format at 999999999 without power", Format(d), api.ErrDead)
	d.Restart()
	answers(t, "L4, P2: Compact at 999999999, broken", j.Compact(nil), api.ErrDead)
	answers(t, "L1: Format at 999999999", Format(d), api.ErrFull)
	lay(t, d, 0, headOf(999999998, 0, ""))
	lay(t, d, 1, "")
	answers(t, "L1: Format at 999999998", Format(d), api.OK)
	tells(t, "Format at 999999998", d, state{generation: 999999999, area: 1})
}

func TestWithoutPower(t *testing.T) {
	d, j := formatted(t, 8)
	for _, d := range []*disk.Disk{d, blank(t, 8)} {
		d.Crash(api.Crash{})
		answers(t, "L1: Format without power", Format(d), api.ErrDead)
		k, snapshot, records, errno := Open(d)
		if k != nil || snapshot != nil || records != nil || errno != api.ErrDead {
			t.Errorf("L2, P2: Open without power: %v, %q, %q, error %d; want nothing, and ErrDead", k != nil, snapshot, records, errno)
		}
		if d.Alive() || d.Falls() != 1 {
			t.Errorf("L1, L2: the power is back behind Format and Open")
		}
	}
	if !isBroken(j, d) {
		t.Errorf("L5: a journal without power goes on")
	}
}

func TestBrokenJournals(t *testing.T) {
	for name, fall := range map[string]func(*disk.Disk, *Journal){
		"Crash":               func(d *disk.Disk, _ *Journal) { d.Crash(api.Crash{}) },
		"Crash, all is kept":  func(d *disk.Disk, _ *Journal) { d.Crash(api.Crash{Keep: 99}) },
		"a fuse at a Sync":    func(d *disk.Disk, _ *Journal) { d.Fuse(0, api.Crash{}); d.Sync() },
		"a fuse in Append":    func(d *disk.Disk, j *Journal) { d.Fuse(1, api.Crash{Keep: 9}); j.Append([]byte("x")) },
		"a fuse behind all":   func(d *disk.Disk, j *Journal) { d.Fuse(2, api.Crash{Keep: 9}); j.Append([]byte("x")) },
		"a fuse in Compact":   func(d *disk.Disk, j *Journal) { d.Fuse(2, api.Crash{Keep: 9}); j.Compact([]byte("x")) },
		"a fuse in Format":    func(d *disk.Disk, _ *Journal) { d.Fuse(1, api.Crash{}); Format(d) },
		"twice":               func(d *disk.Disk, _ *Journal) { d.Crash(api.Crash{}); d.Restart(); d.Crash(api.Crash{}) },
		"of another's Append": func(d *disk.Disk, _ *Journal) { k, _, _, _ := Open(d); d.Fuse(0, api.Crash{}); k.Append([]byte("x")) },
	} {
		d, j := formatted(t, 8)
		answers(t, "L3: Append", j.Append([]byte("kept")), api.OK)
		fall(d, j)
		if d.Alive() {
			t.Fatalf("D4: %s: the power is on", name)
		}
		for range 3 {
			if !isBroken(j, d) {
				t.Errorf("L5: %s: the journal goes on", name)
			}
			d.Restart()
		}
		answers(t, "L2: "+name+": Open anew", func() api.Errno { _, _, _, e := Open(d); return e }(), api.OK)
		k := open(t, d)
		if !isBroken(j, d) {
			t.Errorf("L5: %s: the journal goes on behind Open", name)
		}
		s := imageOf(t, d).held()
		if s.records[0] != "kept" {
			t.Errorf("L6: %s: there is %v", name, s)
		}
		s = done(t, name+": Append anew", appending("anew"), d, k, s)
		tells(t, name+": Append anew", d, s)
	}
}

// TestOpenedBehindFailures: of a disk that has fallen, ever so often, ahead of Open.
func TestOpenedBehindFailures(t *testing.T) {
	d := blank(t, 8)
	for range 3 {
		d.Crash(api.Crash{})
		d.Restart()
		answers(t, "L1: Format of a disk that has fallen", Format(d), api.OK)
		j := open(t, d)
		answers(t, "L3: Append on a disk that has fallen", j.Append([]byte("a")), api.OK)
		d.Restart()
		answers(t, "L5: Append behind a Restart with the power on", j.Append([]byte("b")), api.OK)
		if j.Room() != 169 {
			t.Errorf("L5: Room is %d, want 169", j.Room())
		}
	}
}

func TestOpenWritesNothing(t *testing.T) {
	d, j := formatted(t, 8)
	j.Compact([]byte("snap"))
	j.Append([]byte("one"))
	s := imageOf(t, d).held()
	lay(t, d, 5, "snap"+recordOf("two")) // not synced: it stands there all the same
	like := d.Copy()
	for _, d := range []*disk.Disk{d, blank(t, 8)} {
		d.Fuse(0, api.Crash{})
		Open(d)
		if !d.Alive() {
			t.Errorf("L2: Open has written or synced")
		}
	}
	alike(t, "Open", d, like)
	two := state{generation: 2, area: 1, end: 14, snapshot: "snap", records: []string{"two"}}
	tells(t, "of what stands there", d, two)
	d.Crash(api.Crash{})
	d.Restart()
	tells(t, "of what lasts", d, s)
}

// TestRefusedCalls: they change nothing.
func TestRefusedCalls(t *testing.T) {
	d, j := formatted(t, 8)
	j.Append([]byte("one"))
	like := d.Copy()
	for range 2 {
		d.Fuse(0, api.Crash{})
		answers(t, "L3: Append of nil", j.Append(nil), api.ErrRecord)
		answers(t, "L3: Append of no bytes", j.Append([]byte{}), api.ErrRecord)
		answers(t, "L3: Append of 176", j.Append(make([]byte, 176)), api.ErrFull)
		answers(t, "L3: Append of 6001", j.Append(make([]byte, 6001)), api.ErrRecord)
		answers(t, "L3: Append of 1000000", j.Append(make([]byte, 1000000)), api.ErrRecord)
		answers(t, "L4: Compact of 193", j.Compact(make([]byte, 193)), api.ErrFull)
		answers(t, "L4: Compact of 1000000", j.Compact(make([]byte, 1000000)), api.ErrFull)
		if !d.Alive() || j.Room() != 175 {
			t.Errorf("P2: behind refused calls: alive %v, Room %d", d.Alive(), j.Room())
		}
		d.Restart()
	}
	alike(t, "refused calls", d, like)
	answers(t, "L4: Compact of nil", j.Compact(nil), api.OK)
	tells(t, "Compact of nil", d, state{generation: 2, area: 1})
}

func TestDisksThatAreNone(t *testing.T) { // P1
	for name, d := range map[string]*disk.Disk{"nil": nil, "a zero disk": {}} {
		if errno := Format(d); errno == api.OK {
			t.Errorf("P1: Format of %s: no error", name)
		}
		if j, snapshot, records, errno := Open(d); j != nil || snapshot != nil || records != nil || errno == api.OK {
			t.Errorf("P1, P2: Open of %s: %v, %q, %q, error %d", name, j != nil, snapshot, records, errno)
		}
	}
}

// TestNothingIsShared: what is handed in is neither written into nor kept, and an answer is the caller's.
func TestNothingIsShared(t *testing.T) {
	d, j := formatted(t, 100)
	row := []byte("abcdefghij" + sign(5, 300))
	before := bytes.Clone(row)
	answers(t, "L3: Append", j.Append(row[2:5]), api.OK)
	answers(t, "L4: Compact", j.Compact(row[5:8]), api.OK)
	answers(t, "L3: Append", j.Append(row[:1]), api.OK)
	answers(t, "L3: Append", j.Append(row[1:201]), api.OK)
	answers(t, "L3: Append", j.Append(row[3:6]), api.OK)
	if !bytes.Equal(row, before) {
		t.Errorf("P3: what was handed in became %q", row)
	}
	clear(row)
	want := state{generation: 2, area: 1, end: 3 + 21 + 204, snapshot: "fgh", records: []string{"a", string(before[1:201]), "def"}}
	tells(t, "behind writing into what was handed in", d, want)
	_, snapshot, records, _ := Open(d)
	_, otherSnapshot, otherRecords, _ := Open(d)
	for k, list := range append([][]byte{snapshot}, records...) {
		kept := append([][]byte{snapshot}, records...)
		list = list[:cap(list)]
		for i := range list {
			list[i] = '!'
		}
		_ = append(list, "!!!!!!!!!!!!!!!!!!!!"...)
		for _, behind := range kept[k+1:] {
			if bytes.Contains(behind, []byte("!")) {
				t.Errorf("P3: writing into list %d of an answer changes another one to %q", k, behind)
			}
		}
	}
	_ = append(records[:1], []byte("!"))
	if string(otherSnapshot) != want.snapshot || !slices.Equal(texts(otherRecords), want.records) {
		t.Errorf("P3: two answers share memory: %q, %q", otherSnapshot, otherRecords)
	}
	tells(t, "behind writing into an answer", d, want)
}

// TestSpareRoom: who appends to one record writes into no other.
func TestSpareRoom(t *testing.T) {
	d, j := formatted(t, 100)
	j.Compact([]byte("snap"))
	for k := range 50 {
		j.Append([]byte(sign(k, k+1)))
	}
	_, snapshot, records, _ := Open(d)
	_ = append(snapshot, sign(25, 40)...)
	for k := range records {
		_ = append(records[k], sign(25, 40)...)
		_ = append(records[k], 'z')
	}
	for k, r := range records {
		if string(r) != sign(k, k+1) {
			t.Errorf("P3: record %d became %q", k, r)
		}
	}
	if len(records) != 50 || string(snapshot) != "snap" {
		t.Errorf("L2: %q, and %d records", snapshot, len(records))
	}
}

func someText(r *rand.Rand, most int) string {
	n := r.Intn(most + 1)
	switch r.Intn(4) {
	case 0:
		n = r.Intn(12)
	case 1:
		n = min(64*r.Intn(4)+r.Intn(3)+56, most)
	}
	b := make([]byte, n)
	for i := range b {
		b[i] = byte(r.Intn(3)) // many flags and noughts among them
	}
	return string(b)
}

func someCall(r *rand.Rand, size int) call {
	switch k := r.Intn(20); {
	case k < 14:
		return appending(someText(r, min(size/2, 6100)))
	case k < 19:
		return compacting(someText(r, size+2))
	}
	return formatting()
}

// TestLongRowsOfCalls: on one journal that is never opened anew, but for Format.
func TestLongRowsOfCalls(t *testing.T) {
	r := rand.New(rand.NewSource(5))
	for row := range 60 {
		blocks := []int{8, 9, 10, 15, 60, 300}[row%6]
		d, j := formatted(t, blocks)
		s := imageOf(t, d).held()
		for k := range 60 {
			c := someCall(r, (blocks-2)/2*64)
			what := fmt.Sprintf("row %d, call %d, on %d blocks: %s", row, k, blocks, c.name)
			s = done(t, what, c, d, j, s)
			if c.name == "Format()" {
				j = open(t, d)
			}
			if want := imageOf(t, d).room(s); j.Room() != want {
				t.Fatalf("L5: %s: Room is %d, want %d", what, j.Room(), want)
			}
			tells(t, what, d, s)
		}
	}
}

// same tells whether two states are the same to who opens the disk.
func same(a, b state) bool {
	return (a.generation == 0) == (b.generation == 0) && a.snapshot == b.snapshot && slices.Equal(a.records, b.records)
}

// TestLongRowsOfFailures: the power fails again and again, in calls and between them; each time all that was answered is there, and at most the call in the midst of which it failed.
func TestLongRowsOfFailures(t *testing.T) {
	r := rand.New(rand.NewSource(6))
	for row := range 300 {
		blocks := []int{8, 9, 10, 15, 60, 300}[row%6]
		size := (blocks - 2) / 2 * 64
		d := blank(t, blocks)
		var j *Journal
		var s state
		for k := range 80 {
			c := someCall(r, size)
			if j == nil {
				c = formatting()
			}
			what := fmt.Sprintf("row %d, call %d, on %d blocks: %s", row, k, blocks, c.name)
			_, behind, want := c.steps(imageOf(t, d), s)
			if r.Intn(2) == 0 {
				d.Fuse(r.Intn(8), api.Crash{Keep: r.Intn(6) - 1, Torn: r.Intn(68) - 2})
			}
			got := c.do(d, j)
			if got == api.OK {
				s = behind
			}
			if d.Alive() && got != want || !d.Alive() && got != api.ErrDead {
				t.Fatalf("L1, L3, L4: %s: error %d, want %d; alive %v", what, got, want, d.Alive())
			}
			if d.Alive() && r.Intn(6) == 0 {
				d.Crash(api.Crash{Keep: r.Intn(3), Torn: r.Intn(65)})
				behind = s
			}
			fallen := !d.Alive()
			d.Restart()
			if fallen && j != nil && !isBroken(j, d) {
				t.Fatalf("L5: %s: the journal goes on", what)
			}
			found := imageOf(t, d).held()
			tells(t, what, d, found)
			if !same(found, s) && !(fallen && same(found, behind)) {
				t.Fatalf("L6: %s: there is %v; want %v or %v", what, found, s, behind)
			}
			s = found
			if fallen || c.name == "Format()" || r.Intn(10) == 0 {
				j = nil
				if s.generation > 0 {
					j = open(t, d)
				}
			}
		}
	}
}

// TestOneBehindTheOther: one journal at a time: who opens anew finds what the other one left, and goes on there.
func TestOneBehindTheOther(t *testing.T) {
	d, _ := formatted(t, 20)
	s := imageOf(t, d).held()
	for k := range 25 {
		c := appending(sign(k, 1+k%9))
		if k%7 == 6 {
			c = compacting(sign(k, k))
		}
		s = done(t, c.name, c, d, open(t, d), s)
		tells(t, c.name, d, s)
	}
}

// TestManyRecords: how long a call takes does not hang on how many records there are.
func TestManyRecords(t *testing.T) {
	start := time.Now()
	d, j := formatted(t, 4096)
	for range 3 {
		n := 0
		for j.Append([]byte{byte(n)}) == api.OK {
			n++
		}
		if n != 131008/8 || j.Room() != -1 {
			t.Errorf("L3, L5: %d records of one byte, Room %d; want %d, -1", n, j.Room(), 131008/8)
		}
		_, snapshot, records, errno := Open(d)
		if errno != api.OK || len(snapshot) != 0 || len(records) != n {
			t.Errorf("L2: %d bytes and %d records, error %d", len(snapshot), len(records), errno)
		}
		for k, r := range records {
			if len(r) != 1 || r[0] != byte(k) {
				t.Fatalf("L2: record %d is %q", k, r)
			}
		}
		answers(t, "L4: Compact", j.Compact(nil), api.OK)
	}
	if took := time.Since(start); took > 20*time.Second {
		t.Errorf("P1: many records took %v", took)
	}
}

// TestJournalsAtOnce: journals of several disks have nothing to do with one another.
func TestJournalsAtOnce(t *testing.T) { // P4
	var all sync.WaitGroup
	base, _ := formatted(t, 12)
	for k := range 8 {
		d := base.Copy()
		all.Go(func() {
			j, _, _, errno := Open(d)
			answers(t, "L2: Open", errno, api.OK)
			for range 50 {
				answers(t, "L3: Append", j.Append([]byte(sign(k, 30))), api.OK)
				answers(t, "L4: Compact", j.Compact([]byte(sign(k, 20))), api.OK)
				answers(t, "L3: Append", j.Append([]byte(sign(k, 10))), api.OK)
				_, snapshot, records, _ := Open(d)
				if string(snapshot) != sign(k, 20) || !slices.Equal(texts(records), []string{sign(k, 10)}) {
					t.Errorf("P4: journal %d has %q, %q", k, snapshot, records)
				}
			}
		})
	}
	all.Wait()
	tells(t, "the one that was copied", base, state{generation: 1})
}
