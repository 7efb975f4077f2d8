package journal

import (
	"encoding/binary"
	"fmt"
	"hash/fnv"
	"strings"
	"testing"

	"tocsin/api"
	"tocsin/disk"
)

// A step is what a call asks of a disk: a sync, or a write.
type step struct {
	sync bool
	at   int
	text string
}

// state is what a journal in the words of the document has: none, if the generation is 0.
type state struct {
	generation, area, end int
	snapshot              string
	records               []string
}

func (s state) String() string {
	if s.generation == 0 {
		return "none"
	}
	return fmt.Sprintf("generation %d in area %d, up to %d: %q %q", s.generation, s.area, s.end, s.snapshot, s.records)
}

// image is what stands on a disk, block by block.
type image []string

func imageOf(t *testing.T, d *disk.Disk) image {
	t.Helper()
	var m image
	for i := range d.Blocks() {
		b, errno := d.Read(i)
		if errno != api.OK {
			t.Fatalf("D2: Read(%d): error %d", i, errno)
		}
		m = append(m, string(b))
	}
	return m
}

func noughts(n int) string { return strings.Repeat("\x00", n) }

func filled(text string) string { return text + noughts(64-len(text)) }

func low(n, bytes int) string {
	return string(binary.LittleEndian.AppendUint64(nil, uint64(n))[:bytes])
}

func sumOf(text string) int {
	h := fnv.New32a()
	h.Write([]byte(text))
	return int(h.Sum32())
}

func headOf(generation, area int, snapshot string) string {
	return filled("tocsin" + low(area, 1) + "\x00" + low(generation, 4) + low(len(snapshot), 4) + low(sumOf(snapshot), 4))
}

func recordOf(data string) string {
	return "\x01" + low(len(data), 2) + low(sumOf(data), 4) + data
}

func (m image) half() int { return (len(m) - 2) / 2 }

func (m image) size() int { return 64 * m.half() }

func (m image) areaOf(area int) string {
	from := 2 + area*m.half()
	return strings.Join(m[from:from+m.half()], "")
}

// held is the journal that an image holds, found by trying all that a head may say.
func (m image) held() state {
	var out state
	for k := range 2 {
		generation := int(binary.LittleEndian.Uint32([]byte(m[k][8:12])))
		size := int(binary.LittleEndian.Uint32([]byte(m[k][12:16])))
		if generation%2 != k || generation < 1 || generation > 999999999 || size > m.size() {
			continue
		}
		for area := range 2 {
			snapshot := m.areaOf(area)[:size]
			if headOf(generation, area, snapshot) == m[k] && generation > out.generation {
				out = state{generation: generation, area: area, end: size, snapshot: snapshot}
			}
		}
	}
	if out.generation > 0 {
		out.records, out.end = m.recordsOf(out.area, out.end)
	}
	return out
}

func (m image) recordsOf(area, p int) (records []string, end int) {
	row := m.areaOf(area)
	for p+7 < m.size() {
		length := int(binary.LittleEndian.Uint16([]byte(row[p+1:])))
		if length < 1 || length > 6000 || p+7+length > m.size() || !strings.HasPrefix(row[p:], recordOf(row[p+7:p+7+length])) {
			break
		}
		records = append(records, row[p+7:p+7+length])
		p += 7 + length
	}
	return records, p
}

// writing is how a text is written into an area, from p on.
func (m image) writing(area, p int, text string) []step {
	e := p + len(text)
	row := m.areaOf(area)[:p] + text + noughts(m.size()-e)
	var steps []step
	for k := range m.half() {
		if k >= p/64 && k <= e/64 {
			steps = append(steps, step{at: 2 + area*m.half() + k, text: row[64*k : 64*k+64]})
		}
	}
	return steps
}

func (m image) room(s state) int {
	room := m.size() - s.end - 7
	if room > 6000 {
		room = 6000
	}
	if room < 1 {
		room = -1
	}
	return room
}

func (m image) appending(s state, data string) ([]step, state, api.Errno) {
	switch {
	case data == "" || len(data) > 6000:
		return nil, s, api.ErrRecord
	case len(data) > m.room(s):
		return nil, s, api.ErrFull
	}
	record := recordOf(data)
	steps := m.writing(s.area, s.end, "\x00"+record[1:])
	flagged := m.writing(s.area, s.end, record)[0]
	steps = append(steps, step{sync: true}, flagged, step{sync: true})
	s.end += len(record)
	s.records = append(append([]string{}, s.records...), data)
	return steps, s, api.OK
}

func (m image) compacting(s state, snapshot string) ([]step, state, api.Errno) {
	if len(snapshot) > m.size() || s.generation == 999999999 {
		return nil, s, api.ErrFull
	}
	s = state{generation: s.generation + 1, area: 1 - s.area, end: len(snapshot), snapshot: snapshot}
	head := headOf(s.generation, s.area, snapshot)
	k := s.generation % 2
	steps := append(m.writing(s.area, 0, snapshot), step{sync: true}, step{at: k, text: "\x00" + head[1:]}, step{sync: true}, step{at: k, text: head}, step{sync: true})
	return steps, s, api.OK
}

func (m image) formatting() ([]step, state, api.Errno) {
	s := m.held()
	if s.generation > 0 {
		return m.compacting(s, "")
	}
	steps, s, errno := m.compacting(state{area: 1}, "")
	return append([]step{{text: filled("")}, {sync: true}}, steps...), s, errno
}

// play does steps on a disk, up to the first that is not answered OK.
func play(d *disk.Disk, steps []step) api.Errno {
	for _, s := range steps {
		errno := api.OK
		if s.sync {
			errno = d.Sync()
		} else {
			errno = d.Write(s.at, []byte(s.text))
		}
		if errno != api.OK {
			return errno
		}
	}
	return api.OK
}

// A call is done on a journal, or foretold.
type call struct {
	name  string
	do    func(*disk.Disk, *Journal) api.Errno
	steps func(image, state) ([]step, state, api.Errno)
}

func short(text string) string {
	if len(text) > 20 {
		return fmt.Sprintf("%q.. of %d bytes", text[:20], len(text))
	}
	return fmt.Sprintf("%q", text)
}

func appending(data string) call {
	return call{
		"Append(" + short(data) + ")",
		func(_ *disk.Disk, j *Journal) api.Errno { return j.Append([]byte(data)) },
		func(m image, s state) ([]step, state, api.Errno) { return m.appending(s, data) },
	}
}

func compacting(snapshot string) call {
	return call{
		"Compact(" + short(snapshot) + ")",
		func(_ *disk.Disk, j *Journal) api.Errno { return j.Compact([]byte(snapshot)) },
		func(m image, s state) ([]step, state, api.Errno) { return m.compacting(s, snapshot) },
	}
}

func formatting() call {
	return call{
		"Format()",
		func(d *disk.Disk, _ *Journal) api.Errno { return Format(d) },
		func(m image, _ state) ([]step, state, api.Errno) { return m.formatting() },
	}
}
