package wire

import (
	"errors"
	"fmt"
	"math"
	"math/rand"
	"strings"
	"sync"
	"testing"

	"tocsin/api"
)

// read is what is read of the shapes, as the model tells it.
func read(r *Reader, shapes []shape) string {
	var all []string
	for _, s := range shapes {
		switch s.kind {
		case 'n':
			all = append(all, fmt.Sprint(r.Int()))
		case 't':
			all = append(all, fmt.Sprint(r.Flag()))
		case 's':
			all = append(all, fmt.Sprintf("%q", r.Text()))
		case 'l':
			all = append(all, fmt.Sprint(ReadList(r, s.most, func(r *Reader) string { return read(r, s.parts) })))
		}
	}
	return "(" + strings.Join(all, " ") + ")"
}

// copied reads the shapes, and writes what it reads.
func copied(r *Reader, w *Writer, shapes []shape) {
	for _, s := range shapes {
		switch s.kind {
		case 'n':
			w.Int(r.Int())
		case 't':
			w.Flag(r.Flag())
		case 's':
			w.Text(r.Text())
		case 'l':
			l := ReadList(r, s.most, func(r *Reader) []byte {
				v := NewWriter()
				copied(r, v, s.parts)
				return v.Bytes()
			})
			WriteList(w, l, func(w *Writer, b []byte) {
				again := NewReader(b)
				copied(again, w, s.parts)
			})
		}
	}
}

// held reads the shapes of a text, by a Reader and by the model.
func held(t *testing.T, text string, shapes []shape) {
	t.Helper()
	r, m := reader(text), newModel(text)
	got, want := read(r, shapes), m.told(shapes)
	at := -1
	var f *api.Fault
	if errors.As(r.Err(), &f) {
		at = f.At
	}
	if got != want || at != m.fault || r.End() != m.end() || (at < 0) != (r.Err() == nil) || (at >= 0) != errors.Is(r.Err(), api.ErrWire) {
		t.Fatalf("W3, W4: % x as %v: %s, %v, End %v; want %s, a fault at %d (-1: none), End %v", text, shapes, got, r.Err(), r.End(), want, m.fault, m.end())
	}
	if m.fault >= 0 {
		return
	}
	w := NewWriter()
	copied(reader(text), w, shapes)
	if string(w.Bytes()) != text[:m.at] {
		t.Fatalf("W2, W3: % x, read as %v and written again, is % x", text[:m.at], shapes, w.Bytes())
	}
}

// someShapes are rows of things to read.
func someShapes() [][]shape {
	n, b, s := shape{kind: 'n'}, shape{kind: 't'}, shape{kind: 's'}
	list := func(most int, parts ...shape) shape { return shape{'l', most, parts} }
	all := [][]shape{{n}, {b}, {s}, {n, n}, {b, n}, {s, b}, {b, b, s}, {n, s, n}}
	for _, most := range []int{math.MinInt, -1, 0, 1, 2, 3, 127, 128} {
		all = append(all, []shape{list(most, n)}, []shape{list(most, b), n}, []shape{b, list(most, s)}, []shape{list(most)}, []shape{list(most, b, n), b})
	}
	return append(all,
		[]shape{list(2, list(2, n))}, []shape{list(3, list(1, b), n), b}, []shape{list(math.MaxInt, list(math.MaxInt, s))},
		[]shape{list(2, list(2, list(2, n)))}, []shape{list(2, n), list(2, s)})
}

// eachText visits all texts of as many bytes, each of the alphabet.
func eachText(alphabet string, length int, visit func(text string)) {
	text := make([]byte, length)
	var fill func(i int)
	fill = func(i int) {
		if i == length {
			visit(string(text))
			return
		}
		for k := range len(alphabet) {
			text[i] = alphabet[k]
			fill(i + 1)
		}
	}
	fill(0)
}

func TestAllShortBytes(t *testing.T) {
	for _, shapes := range someShapes() {
		for length := range 5 {
			eachText("\x00\x01\x02\x03\x7f\x80\x81\xff", length, func(text string) { held(t, text, shapes) })
		}
		eachText("\x00\x01\x02\x80", 6, func(text string) { held(t, text, shapes) })
		for x := range 256 {
			for _, y := range []byte{0, 1, 2, 3, 0x7e, 0x7f, 0x80, 0x81, 0xff} {
				held(t, string([]byte{byte(x), y}), shapes)
				held(t, string([]byte{y, byte(x)}), shapes)
			}
		}
	}
}

func TestAllLongCounts(t *testing.T) {
	for _, shapes := range someShapes() {
		for length := 5; length <= 12; length++ {
			for _, piece := range []string{"\x80", "\xff", "\x81", "\x80\xff"} {
				front := strings.Repeat(piece, length)[:length]
				for end := range 3 {
					eachText("\x00\x01\x02\x7f\x80\xff", end, func(text string) {
						held(t, front+text, shapes)
						held(t, "\x01"+front+text, shapes)
					})
				}
			}
		}
		for last := range 256 {
			held(t, ten(string([]byte{byte(last)})), shapes)
			held(t, ten(string([]byte{byte(last), 'a', 0})), shapes)
		}
	}
}

// making makes a row of things and what to read of it, by chance.
type making struct {
	rand *rand.Rand
}

func (k making) number() int64 {
	n := int64(k.rand.Uint64()) >> k.rand.Intn(64)
	switch k.rand.Intn(8) {
	case 0:
		return []int64{0, 1, -1, 63, 64, -64, -65, least, greatest}[k.rand.Intn(9)]
	case 1:
		return -n
	}
	return n
}

func (k making) text() string {
	b := make([]byte, []int{0, 1, 3, 20, 127, 128, 300}[k.rand.Intn(7)])
	k.rand.Read(b)
	return string(b)
}

func (k making) shapes(depth int) []shape {
	row := make([]shape, 1+k.rand.Intn(4))
	for i := range row {
		row[i].kind = "ntsl"[k.rand.Intn(4)]
		if depth == 0 {
			row[i].kind = "nts"[k.rand.Intn(3)]
		}
		if row[i].kind == 'l' {
			row[i].most = []int{3, 5, 300, math.MaxInt}[k.rand.Intn(4)]
			row[i].parts = k.shapes(depth - 1)
		}
	}
	return row
}

// write writes things of the shapes by a Writer, and gives them as the document writes them.
func (k making) write(w *Writer, shapes []shape) string {
	text := ""
	for _, s := range shapes {
		switch s.kind {
		case 'n':
			n := k.number()
			w.Int(n)
			text += numberBytes(n)
		case 't':
			b := k.rand.Intn(2) == 1
			w.Flag(b)
			text += truthBytes(b)
		case 's':
			s := k.text()
			w.Text(s)
			text += textBytes(s)
		case 'l':
			var things []string
			WriteList(w, make([]int, k.rand.Intn(4)), func(w *Writer, _ int) {
				things = append(things, k.write(w, s.parts))
			})
			text += listBytes(things...)
		}
	}
	return text
}

// spoilt is a text in which a few bytes are others, are gone, or have come in.
func (k making) spoilt(text string) string {
	b := []byte(text)
	for range 1 + k.rand.Intn(2) {
		if len(b) == 0 {
			break
		}
		i := k.rand.Intn(len(b))
		x := []byte{0, 1, 2, 0x7f, 0x80, 0xff, byte(k.rand.Intn(256))}[k.rand.Intn(7)]
		switch k.rand.Intn(4) {
		case 0:
			b = b[:i]
		case 1:
			b = append(b[:i], b[i+1:]...)
		case 2:
			b = append(b[:i], append([]byte{x}, b[i:]...)...)
		case 3:
			b[i] = x
		}
	}
	return string(b)
}

func TestRowsByChance(t *testing.T) {
	k := making{rand.New(rand.NewSource(6))}
	whole, wrong := 0, 0
	for range 4000 {
		shapes := k.shapes(3)
		w := NewWriter()
		text := k.write(w, shapes)
		if string(w.Bytes()) != text {
			t.Fatalf("W2, W4: %v: % x, want % x", shapes, w.Bytes(), text)
		}
		r := reader(text)
		read(r, shapes)
		if !r.End() {
			t.Fatalf("W3: what was written is not read to its end: %v, % x: %v", shapes, text, r.Err())
		}
		for range 20 {
			bad := k.spoilt(text)
			held(t, bad, shapes)
			if r := reader(bad); read(r, shapes) != "" && r.Err() != nil {
				wrong++
			} else {
				whole++
			}
		}
		held(t, text, shapes)
		held(t, text+"\x00", shapes)
	}
	if whole < 1000 || wrong < 1000 {
		t.Errorf("of the rows %d have no fault and %d have one: too few", whole, wrong)
	}
}

func TestCutAnywhere(t *testing.T) {
	k := making{rand.New(rand.NewSource(7))}
	for range 60 {
		shapes := k.shapes(2)
		text := k.write(NewWriter(), shapes)
		for i := range min(len(text), 400) {
			held(t, text[:i], shapes)
			if r := reader(text[:i]); read(r, shapes) != "" && r.Err() == nil {
				t.Fatalf("W3: % x, cut at %d, has no fault", text, i)
			}
		}
	}
}

func TestByTurns(t *testing.T) {
	const many = 5
	k := making{rand.New(rand.NewSource(8))}
	var ws [many]*Writer
	var wants [many]string
	for i := range ws {
		ws[i] = NewWriter()
	}
	for step := range 300 {
		i := k.rand.Intn(many)
		n, s := k.number(), k.text()
		switch step % 4 {
		case 0:
			ws[i].Int(n)
			wants[i] += numberBytes(n)
		case 1:
			ws[i].Text(s)
			wants[i] += textBytes(s)
		case 2:
			ws[i].Flag(n%2 == 0)
			wants[i] += truthBytes(n%2 == 0)
		case 3:
			// The things of one list go to the Writer, and to another one between.
			WriteList(ws[i], []int64{n, -n}, func(w *Writer, x int64) {
				w.Int(x)
				ws[(i+1)%many].Flag(true)
			})
			wants[i] += listBytes(numberBytes(n), numberBytes(-n))
			wants[(i+1)%many] += "\x01\x01"
		}
	}
	for i, w := range ws {
		if string(w.Bytes()) != wants[i] {
			t.Errorf("W1, P4: Writer %d of %d has written other bytes", i, many)
		}
	}
	var rs [many]*Reader
	b := []byte("\x02\x03abc\x01\x09")
	for i := range rs {
		rs[i] = NewReader(b)
	}
	for i, r := range rs {
		for range i {
			r.Int()
		}
	}
	got := ""
	for _, r := range rs {
		got += fmt.Sprintf("%q %v %v; ", r.Text(), r.Err(), r.End())
	}
	want := `"\x03a" <nil> false; "abc" <nil> false; "" tocsin: error 60 at 3 false; "" tocsin: error 60 at 4 false; "" tocsin: error 60 at 5 false; `
	if got != want {
		t.Errorf("W1, P4: Readers by turns: %s, want %s", got, want)
	}
}

func TestManyAtOnce(t *testing.T) {
	shared := []byte("\x03\x02ab\x00\x01c\x80\x00")
	var wait sync.WaitGroup
	for g := range 8 {
		wait.Go(func() {
			k := making{rand.New(rand.NewSource(int64(g)))}
			for range 200 {
				shapes := k.shapes(2)
				w := NewWriter()
				text := k.write(w, shapes)
				if string(w.Bytes()) != text {
					t.Errorf("P4: a Writer beside others: % x, want % x", w.Bytes(), text)
				}
				if r := NewReader(w.Bytes()); read(r, shapes) == "" || !r.End() {
					t.Errorf("P4: a Reader beside others: %v", r.Err())
				}
				r := NewReader(shared)
				if l := ReadList(r, 3, (*Reader).Text); fmt.Sprint(l) != "[ab  c]" || r.Int() != 0 {
					t.Errorf("P4: Readers of the same bytes: %q", l)
				}
				fails(t, "Readers of the same bytes", r, 8)
				if Sum(shared) != sumOfBits(shared) {
					t.Error("P4: a sum beside others")
				}
			}
		})
	}
	wait.Wait()
}
