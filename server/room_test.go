package server

import (
	"fmt"
	"strings"
	"testing"

	"tocsin/api"
	"tocsin/disk"
)

// spent is how many writes and syncs there were since a copy was made.
func spent(d, since *disk.Disk) (writes, syncs int) {
	writes, syncs = d.Costs()
	w, s := since.Costs()
	return writes - w, syncs - s
}

func TestARecordThatFitsJustSo(t *testing.T) { // V3, step 5
	for _, blocks := range []int{8, 9, 20, 63, 64} {
		for left := range 50 {
			d := formatted(t, blocks)
			s := opened(t, d)
			size := roomOn(t, d)
			does(t, s, padded(1, size-7-left-100))
			room := roomOn(t, d)
			same(t, "L5: Room", room, left+100)
			like := d.Copy()
			wants(t, "V3: it fits", s, padded(2, room), ticked)
			if snapshot, records := recordsOn(t, d); snapshot != "" || len(records) != 2 {
				t.Errorf("V3: the journal was made small, and need not be: %q, %q", snapshot, records)
			}
			u := opened(t, like)
			saved := string(u.engine.Save())
			wants(t, "V3: it fits behind Compact", u, padded(2, room+1), ticked)
			snapshot, records := recordsOn(t, like)
			same(t, "V3: the snapshot is what was known ahead of it", snapshot, saved)
			same(t, "V3: the record stands behind it", strings.Join(records, "\n"), padded(2, room+1))
			for _, each := range []*disk.Disk{d, like} {
				same(t, "V2: what is known", string(opened(t, each).engine.Save()), savedBehind(tick(2)))
			}
		}
	}
}

func TestWhatCountsIsTheRecordNotTheBytes(t *testing.T) { // V3, step 5
	d := formatted(t, 8)
	s := opened(t, d)
	raw := "{ " + strings.Repeat(" ", 1000) + `"now" : 1, "do" : "\u0074\u0069\u0063\u006b" }`
	wants(t, "V3", s, raw, ticked)
	_, records := recordsOn(t, d)
	same(t, "V3: the record is the value, printed", strings.Join(records, "\n"), tick(1))
	wants(t, "V3: a record of its length", s, " "+padded(2, roomOn(t, d)), ticked)
	if snapshot, records := recordsOn(t, d); snapshot != "" || len(records) != 2 {
		t.Errorf("V3: it was made small, and need not be: %q, %q", snapshot, records)
	}
}

func TestARecordThatDoesNotFitEvenThen(t *testing.T) { // V3, step 5
	d := formatted(t, 8) // an area has 192 bytes
	s := opened(t, d)
	does(t, s, tick(1), tick(2))
	saved := string(s.engine.Save())
	most := 192 - len(saved) - 7
	wants(t, "V3: it fits just so behind Compact", opened(t, d.Copy()), padded(3, most), ticked)
	wants(t, "V3: it does not fit", s, padded(3, most+1), full)
	same(t, "V3: it is not done", string(s.engine.Save()), saved)
	snapshot, records := recordsOn(t, d)
	same(t, "V3: it was made small all the same", snapshot, saved)
	same(t, "V3: and the command is no record", len(records), 0)
	like := d.Copy()
	wants(t, "V3: it does not fit again", s, padded(3, most+1), full)
	writes, syncs := spent(d, like)
	same(t, "V3: each time it is made small: writes, syncs", fmt.Sprint(writes, syncs), "3 3")
	wants(t, "V3: what only asks needs no room", s, countsIn("@a:home", "!r"), counters(0, 0))
	wants(t, "V3: what is no value needs no room", s, "x", wrongAt(0, 20))
	like = d.Copy()
	wants(t, "V3: it fits just so", s, padded(3, most), ticked)
	writes, syncs = spent(d, like)
	same(t, "V3: and nothing is made small for it: writes, syncs", fmt.Sprint(writes, syncs), "4 2")
	wants(t, "V3", s, tick(4), ticked)
	wants(t, "V3: a refused one that does not fit is not even refused", s, padded(0, most+1), full)
	wants(t, "V3: a refused one that fits is", s, tick(0), failed(141))
	same(t, "V2: what is known", string(opened(t, d).engine.Save()), savedBehind(tick(4)))
}

// TestASnapshotThatDoesNotFit: what pushers wait for is more than the commands were.
func TestASnapshotThatDoesNotFit(t *testing.T) { // V3, step 5
	d := formatted(t, 50)
	s := opened(t, d)
	commands := []string{joins("$1", "!r", "@a:home")}
	for _, key := range []string{"k", "l", "m", "n"} {
		commands = append(commands, setPusher("@a:home", key))
	}
	commands = append(commands, message("$2", "!r", "@b:away", strings.Repeat("a", 400)))
	does(t, s, commands...)
	if size := 64 * ((50 - 2) / 2); len(s.engine.Save()) <= size {
		t.Fatalf("there was to be more than %d bytes, not %d", size, len(s.engine.Save()))
	}
	does(t, s, padded(1, roomOn(t, d)-7-50))
	like := d.Copy()
	saved := string(s.engine.Save())
	for _, command := range []string{padded(2, 51), joins("$3", "!r", "@b:home"), message("$1", "!r", "@a:home", ""), `{"do":"tick","now":"` + strings.Repeat("x", 40) + `"}`} {
		wants(t, "V3: there is no room", s, command, full)
	}
	alike(t, "V3, L4: nothing was written", d, like)
	same(t, "V3: nothing was done", string(s.engine.Save()), saved)
	wants(t, "V3", s, countsIn("@a:home", "!r"), counters(1, 0))
	wants(t, "V3: it fits", s, `{"do":"remove_pusher","key":"k","user":"@a:home"}`, done)
	wants(t, "V3: there is no room at all", s, tick(9), full)
	same(t, "V2: what is known", string(opened(t, d).engine.Save()), savedBehind(append(commands, tick(1), `{"do":"remove_pusher","user":"@a:home","key":"k"}`)...))
}

func TestAJournalThatCanBeMadeSmallNoMore(t *testing.T) { // V3, step 5
	d := blank(t, 20)
	lastGeneration(t, d)
	s := opened(t, d)
	now := 0
	for roomOn(t, d) >= len(tick(now)) {
		wants(t, "V3", s, tick(now), ticked)
		now++
	}
	like := d.Copy()
	wants(t, "V3: there is no room", s, tick(now), full)
	wants(t, "V3: there is no room", s, `{"do":"event"}`+strings.Repeat(" ", 9), full)
	alike(t, "V3, L4: nothing was written", d, like)
	wants(t, "V3", s, countsIn("@a:home", "!r"), counters(0, 0))
	same(t, "V2: what is known", string(opened(t, d).engine.Save()), savedBehind(tick(now-1)))
}

// TestThePowerFailsInCompact: the command is not done, and all that was is there.
func TestThePowerFailsInCompact(t *testing.T) { // V3, step 5; V6
	base := formatted(t, 20)
	does(t, opened(t, base), tick(1), setPusher("@a:home", "k"), padded(2, 400))
	command := padded(3, roomOn(t, base)+1)
	whole := base.Copy()
	does(t, opened(t, whole), command)
	ahead, behind := savedBehind(tick(2), setPusher("@a:home", "k")), savedBehind(tick(3), setPusher("@a:home", "k"))
	same(t, "V2: what is known", string(opened(t, whole).engine.Save()), behind)
	compacts := len(ahead)/64 + 1 + 2 // writes
	all, _ := spent(whole, base)
	for writes := range all + 1 {
		for _, c := range waysToFail() {
			d := base.Copy()
			s := opened(t, d)
			d.Fuse(writes, c)
			what := fmt.Sprintf("V3: the power fails at %d by %+v", writes, c)
			wants(t, what, s, command, dead)
			same(t, what+": it fails once", d.Falls(), 1)
			d.Restart()
			wants(t, what, s, countsIn("@a:home", "!r"), dead)
			got := string(opened(t, d).engine.Save())
			if got != ahead && (got != behind || writes <= compacts) {
				t.Errorf("V6: %s: it knows %q", what, got)
			}
		}
	}
}

// TestThePowerFailsInAppend: the command is done, or it is not.
func TestThePowerFailsInAppend(t *testing.T) { // V3, step 6; V6
	for _, size := range []int{30, 60, 130, 500} {
		base := formatted(t, 60)
		does(t, opened(t, base), tick(1), padded(2, 90))
		whole := base.Copy()
		does(t, opened(t, whole), padded(3, size))
		all, _ := spent(whole, base)
		found := map[string]int{}
		for writes := range all + 1 {
			for _, c := range waysToFail() {
				d := base.Copy()
				s := opened(t, d)
				d.Fuse(writes, c)
				what := fmt.Sprintf("V3: the power fails at %d by %+v", writes, c)
				wants(t, what, s, padded(3, size), dead)
				wants(t, what, s, tick(9), dead)
				d.Restart()
				wants(t, what, s, tick(9), dead)
				found[string(opened(t, d).engine.Save())]++
			}
		}
		if len(found) != 2 || found[savedBehind(tick(2))] == 0 || found[savedBehind(tick(3))] == 0 {
			t.Errorf("V6: of %d bytes: it knows %v", size, found)
		}
	}
}

func TestAFuseThatIsNotReached(t *testing.T) { // V3
	d := formatted(t, 60)
	s := opened(t, d)
	d.Fuse(0, api.Crash{})
	wants(t, "V3: what asks needs no disk", s, countsIn("@a:home", "!r"), counters(0, 0))
	wants(t, "V3", s, "x", wrongAt(0, 20))
	d.Restart() // takes the fuse out; the power was on
	wants(t, "V3: nothing has failed", s, tick(1), ticked)
}
