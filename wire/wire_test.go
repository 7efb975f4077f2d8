package wire

import (
	"errors"
	"fmt"
	"math"
	"math/big"
	"runtime"
	"slices"
	"strings"
	"testing"
	"time"

	"tocsin/api"
)

// The calls as they were given.
var (
	_ func() *Writer                                      = NewWriter
	_ func(*Writer, int64)                                = (*Writer).Int
	_ func(*Writer, bool)                                 = (*Writer).Flag
	_ func(*Writer, string)                               = (*Writer).Text
	_ func(*Writer) []byte                                = (*Writer).Bytes
	_ func([]byte) *Reader                                = NewReader
	_ func(*Reader) int64                                 = (*Reader).Int
	_ func(*Reader) bool                                  = (*Reader).Flag
	_ func(*Reader) string                                = (*Reader).Text
	_ func(*Reader) bool                                  = (*Reader).End
	_ func(*Reader) error                                 = (*Reader).Err
	_ func(*Writer, []string, func(*Writer, string))      = WriteList[string]
	_ func(*Reader, int, func(*Reader) []int64) [][]int64 = ReadList[[]int64]
	_ func([]byte) uint32                                 = Sum
)

const (
	least    = math.MinInt64
	greatest = math.MaxInt64
)

// written is what a new Writer has behind the calls.
func written(calls ...func(w *Writer)) string {
	w := NewWriter()
	for _, call := range calls {
		call(w)
	}
	return string(w.Bytes())
}

func numbers(w *Writer, l []int64)  { WriteList(w, l, (*Writer).Int) }
func truths(w *Writer, l []bool)    { WriteList(w, l, (*Writer).Flag) }
func texts(w *Writer, l []string)   { WriteList(w, l, (*Writer).Text) }
func rows(w *Writer, l [][]int64)   { WriteList(w, l, numbers) }
func reader(text string) *Reader    { return NewReader([]byte(text)) }
func readNumbers(r *Reader) []int64 { return ReadList(r, math.MaxInt, (*Reader).Int) }

// wants holds what was written against bytes.
func wants(t *testing.T, what, got, want string) {
	t.Helper()
	if got != want {
		t.Errorf("%s: % x, want % x", what, got, want)
	}
}

// whole wants a Reader that has read all its bytes, without a fault.
func whole(t *testing.T, what string, r *Reader) {
	t.Helper()
	if err := r.Err(); err != nil || !r.End() {
		t.Errorf("W3: %s: Err %v, End %v; want nil, true", what, err, r.End())
	}
}

// fails wants a fault at a place.
func fails(t *testing.T, what string, r *Reader, at int) {
	t.Helper()
	var f *api.Fault
	err := r.Err()
	if !errors.Is(err, api.ErrWire) || !errors.As(err, &f) || f.At != at || f.Err != api.ErrWire {
		t.Errorf("W3, P5: %s: %v, want ErrWire at %d", what, err, at)
	}
	if r.End() {
		t.Errorf("W3: %s: End tells true behind a fault", what)
	}
}

func TestWriterBeginsWithNothing(t *testing.T) {
	w := NewWriter()
	if w == nil || len(w.Bytes()) != 0 {
		t.Fatal("W1: a new Writer has written something, or is none")
	}
	w.Int(1)
	if v := NewWriter(); len(v.Bytes()) != 0 || len(w.Bytes()) != 1 {
		t.Error("W1: a new Writer has something in common with another")
	}
}

func TestExamples(t *testing.T) {
	for _, c := range []struct {
		n    int64
		want string
	}{
		{0, "\x00"}, {1, "\x02"}, {-1, "\x01"}, {64, "\x80\x01"}, {-65, "\x81\x01"},
		{greatest, "\xfe\xff\xff\xff\xff\xff\xff\xff\xff\x01"}, {least, "\xff\xff\xff\xff\xff\xff\xff\xff\xff\x01"},
	} {
		wants(t, fmt.Sprintf("W2: Int(%d)", c.n), written(func(w *Writer) { w.Int(c.n) }), c.want)
	}
	wants(t, "W2: Text(ab)", written(func(w *Writer) { w.Text("ab") }), "\x02ab")
	wants(t, "W4: 3, -3", written(func(w *Writer) { numbers(w, []int64{3, -3}) }), "\x02\x06\x05")
	wants(t, "W2: true", written(func(w *Writer) { w.Flag(true) }), "\x01")
	wants(t, "W2: false", written(func(w *Writer) { w.Flag(false) }), "\x00")
	for _, c := range []struct {
		text string
		at   int
	}{{"\x80\x00", 1}, {"\x80", 1}, {strings.Repeat("\xff", 10), 9}} {
		r := reader(c.text)
		r.Int()
		fails(t, fmt.Sprintf("Int of % x", c.text), r, c.at)
	}
	r := reader("\x05a")
	r.Text()
	fails(t, "Text of 05 61", r, 1)
	r = reader("\x02")
	r.Flag()
	fails(t, "Flag of 02", r, 0)
}

// edgeNumbers are those next to where the bytes become more, and next to all powers of two, either way.
func edgeNumbers() []int64 {
	all := []int64{least, least + 1, greatest, greatest - 1}
	for bit := range 63 {
		for d := int64(-2); d <= 2; d++ {
			all = append(all, int64(1)<<bit+d, -(int64(1)<<bit + d))
		}
	}
	return all
}

func TestNumbersOfEveryLength(t *testing.T) {
	lengths := map[int]int{}
	for _, n := range edgeNumbers() {
		b := written(func(w *Writer) { w.Int(n) })
		wants(t, fmt.Sprintf("W2: Int(%d)", n), b, numberBytes(n))
		r := reader(b)
		if got := r.Int(); got != n {
			t.Errorf("W3: Int of % x is %d, want %d", b, got, n)
		}
		whole(t, fmt.Sprintf("Int of % x", b), r)
		lengths[len(b)]++
	}
	for k := 1; k <= 10; k++ {
		if lengths[k] == 0 {
			t.Errorf("W2: no number of %d bytes was tried", k)
		}
	}
	// The last of k bytes and the first of one more, either way.
	for k := 1; k <= 9; k++ {
		last := int64(1)<<(7*k-1) - 1
		for n, want := range map[int64]int{last: k, last + 1: k + 1, -last - 1: k, -last - 2: k + 1} {
			if b := written(func(w *Writer) { w.Int(n) }); len(b) != want {
				t.Errorf("W2: Int(%d) has %d bytes, want %d", n, len(b), want)
			}
		}
	}
}

func TestSmallNumbersAreApart(t *testing.T) {
	seen := map[string]int64{}
	for n := int64(-70000); n <= 70000; n++ {
		b := written(func(w *Writer) { w.Int(n) })
		if m, twice := seen[b]; twice {
			t.Fatalf("W2: %d and %d are both % x", n, m, b)
		}
		seen[b] = n
		if b != numberBytes(n) {
			wants(t, fmt.Sprintf("W2: Int(%d)", n), b, numberBytes(n))
		}
		if r := reader(b); r.Int() != n || !r.End() {
			t.Fatalf("W3: Int of % x is not %d", b, n)
		}
	}
}

func TestTruths(t *testing.T) {
	b := written(func(w *Writer) {
		w.Flag(true)
		w.Flag(false)
		w.Flag(false)
		w.Flag(true)
	})
	wants(t, "W2: truths", b, "\x01\x00\x00\x01")
	r := reader(b)
	if got := []bool{r.Flag(), r.Flag(), r.Flag(), r.Flag()}; !slices.Equal(got, []bool{true, false, false, true}) {
		t.Errorf("W3: truths: %v", got)
	}
	whole(t, "truths", r)
	for x := range 256 {
		r := reader(string([]byte{byte(x)}))
		if got, want := r.Flag(), x == 1; got != want {
			t.Errorf("W3: Flag of %02x is %v", x, got)
		}
		if x > 1 {
			fails(t, fmt.Sprintf("Flag of %02x", x), r, 0)
		} else {
			whole(t, "Flag", r)
		}
	}
}

func TestTextsOfAnyBytes(t *testing.T) {
	all := []string{"", "a", "é\U0001F514", "\x00", "\x80", "\xff\xfe", "\x01a\x02"}
	for x := range 256 {
		all = append(all, string([]byte{byte(x)}), strings.Repeat(string([]byte{byte(x), 0}), 40))
	}
	for _, length := range []int{1, 2, 126, 127, 128, 129, 255, 256, 16383, 16384, 16385, 1<<21 - 1, 1 << 21} {
		all = append(all, strings.Repeat("\x81", length))
	}
	for _, s := range all {
		b := written(func(w *Writer) { w.Text(s) })
		if b != textBytes(s) {
			t.Errorf("W2: a text of %d bytes begins % x, want % x", len(s), b[:min(len(b), 12)], textBytes(s)[:min(len(b), 12)])
		}
		r := reader(b)
		if got := r.Text(); got != s {
			t.Errorf("W3: a text of %d bytes is read as one of %d", len(s), len(got))
		}
		whole(t, "a text", r)
	}
}

func TestLists(t *testing.T) {
	wants(t, "W4: nil", written(func(w *Writer) { numbers(w, nil) }), "\x00")
	wants(t, "W4: a list of none", written(func(w *Writer) { texts(w, []string{}) }), "\x00")
	wants(t, "W4: texts", written(func(w *Writer) { texts(w, []string{"", "ab", "\xff"}) }), "\x03\x00\x02ab\x01\xff")
	wants(t, "W4: truths", written(func(w *Writer) { truths(w, []bool{true, false}) }), "\x02\x01\x00")
	wants(t, "W4: lists in a list", written(func(w *Writer) { rows(w, [][]int64{{1}, {}, nil, {-1, 2}}) }), "\x04\x01\x02\x00\x00\x02\x01\x04")
	// A count of a list is no number: 64 things are the one byte 40.
	wants(t, "W4: 64 truths", written(func(w *Writer) { truths(w, make([]bool, 64)) }), "\x40"+strings.Repeat("\x00", 64))
	wants(t, "W4: 128 truths", written(func(w *Writer) { truths(w, make([]bool, 128)) }), "\x80\x01"+strings.Repeat("\x00", 128))

	r := reader("\x04\x01\x02\x00\x00\x02\x01\x04")
	got := ReadList(r, 4, readNumbers)
	if fmt.Sprint(got) != "[[1] [] [] [-1 2]]" {
		t.Errorf("W4: lists in a list: %v", got)
	}
	whole(t, "lists in a list", r)
}

func TestListsOfManyThings(t *testing.T) {
	for _, n := range []int{0, 1, 2, 7, 8, 9, 23, 24, 25, 63, 64, 127, 128, 1000, 16383, 16384, 100000} {
		var l []int64
		for i := range n {
			l = append(l, int64(i*i)-5000)
		}
		b := written(func(w *Writer) { numbers(w, l) })
		for _, most := range []int{n, n + 1, math.MaxInt} {
			r := reader(b)
			if got := ReadList(r, most, (*Reader).Int); !slices.Equal(got, l) {
				t.Fatalf("W4: a list of %d numbers is read as one of %d", n, len(got))
			}
			whole(t, fmt.Sprintf("a list of %d", n), r)
		}
		r := reader(b)
		if got := ReadList(r, n-1, (*Reader).Int); got != nil {
			t.Errorf("W4: a list of %d with most %d has %d things", n, n-1, len(got))
		}
		fails(t, fmt.Sprintf("a list of %d with most %d", n, n-1), r, 0)
	}
}

func TestListsOfAnyType(t *testing.T) {
	type pair struct {
		name string
		n    int64
		more []bool
	}
	all := []pair{{"a", 1, nil}, {"", least, []bool{true}}, {"\xff", greatest, []bool{false, true}}}
	onePair := func(w *Writer, p pair) {
		w.Text(p.name)
		w.Int(p.n)
		truths(w, p.more)
	}
	b := written(func(w *Writer) { WriteList(w, all, onePair) })
	wants(t, "W4: structs", b, listBytes(
		textBytes("a")+numberBytes(1)+listBytes(),
		textBytes("")+numberBytes(least)+listBytes("\x01"),
		textBytes("\xff")+numberBytes(greatest)+listBytes("\x00", "\x01")))
	r := reader(b)
	got := ReadList(r, 3, func(r *Reader) *pair {
		return &pair{r.Text(), r.Int(), ReadList(r, 2, (*Reader).Flag)}
	})
	for i, p := range got {
		if p.name != all[i].name || p.n != all[i].n || !slices.Equal(p.more, all[i].more) {
			t.Errorf("W4: a pair: %v, want %v", p, all[i])
		}
	}
	if len(got) != 3 {
		t.Errorf("W4: %d pairs, want 3", len(got))
	}
	whole(t, "pairs", r)

	r = reader("\x03\x01\x00\x01")
	if got := ReadList(r, 3, func(r *Reader) struct{} { r.Flag(); return struct{}{} }); len(got) != 3 {
		t.Errorf("W4: %d empty structs, want 3", len(got))
	}
	whole(t, "empty structs", r)
	r = reader("\x02\x01\x00")
	asked := ReadList(r, 3, func(r *Reader) func() bool { b := r.Flag(); return func() bool { return b } })
	if len(asked) != 2 || !asked[0]() || asked[1]() {
		t.Errorf("W4: functions: %d of them", len(asked))
	}
	type page [4096]byte
	r = reader("\x02\x01\x00")
	if got := ReadList(r, 3, func(r *Reader) (x page) { x[4095] = byte(r.Int()); return x }); len(got) != 2 || got[0][4095] != 0xff {
		t.Errorf("W4: arrays: %d of them", len(got))
	}
}

func TestOneIsCalledInOrder(t *testing.T) {
	var seen []string
	w := NewWriter()
	w.Flag(true)
	WriteList(w, []string{"x", "y", "z"}, func(v *Writer, s string) {
		if v != w {
			t.Error("W4: one is handed another Writer")
		}
		seen = append(seen, fmt.Sprintf("%s behind % x", s, v.Bytes()))
		v.Text(s)
	})
	want := "[x behind 01 03 y behind 01 03 01 78 z behind 01 03 01 78 01 79]"
	if fmt.Sprint(seen) != want {
		t.Errorf("W4: one saw %v, want %s", seen, want)
	}
	r := NewReader(w.Bytes())
	r.Flag()
	seen = nil
	l := ReadList(r, 3, func(q *Reader) int {
		if q != r {
			t.Error("W4: one is handed another Reader")
		}
		seen = append(seen, q.Text())
		return len(seen)
	})
	if fmt.Sprint(seen, l) != "[x y z] [1 2 3]" {
		t.Errorf("W4: %v, %v", seen, l)
	}
	whole(t, "a list behind a truth", r)
}

func TestBytesIsNewMemory(t *testing.T) {
	w := NewWriter()
	want := ""
	for i := range 200 {
		s := strings.Repeat("z", i%7)
		w.Text(s)
		want += textBytes(s)
		b, other := w.Bytes(), w.Bytes()
		if string(b) != want {
			t.Fatalf("W2: % x, want % x", b, want)
		}
		spare := b[:cap(b)]
		for k := range spare {
			spare[k] = 0xee
		}
		if string(other) != want || string(w.Bytes()) != want {
			t.Fatal("W2, P3: what is written into an answer is seen elsewhere")
		}
	}
	kept := w.Bytes()
	w.Int(least)
	if string(kept) != want || string(w.Bytes()) != want+numberBytes(least) {
		t.Error("W2, P3: an answer changes when more is written")
	}
}

func TestReaderReadsACopy(t *testing.T) {
	b := []byte("\x03abc\x02\x01x behind")
	r := NewReader(b[:5])
	for i := range b {
		b[i] = 0xee
	}
	if s, n := r.Text(), r.Int(); s != "abc" || n != 1 {
		t.Errorf("W3, P3: %q, %d behind what its owner wrote over", s, n)
	}
	if r.Flag() {
		t.Error("W3: a byte behind the end is read")
	}
	fails(t, "a truth behind the end", r, 5)

	b = []byte("\x02\x01a\x01b\x80\x01 behind")
	was := string(b)
	r = NewReader(b[:6])
	ReadList(r, 9, (*Reader).Text)
	r.Int()
	fails(t, "a number that goes on behind the end", r, 6)
	Sum(b[:4])
	wants(t, "P3: the bytes that were handed in", string(b), was)

	l := []string{"a", "b", "behind"}
	texts(NewWriter(), l[:2])
	if fmt.Sprint(l) != "[a b behind]" {
		t.Errorf("P3: a list that was handed in is %v", l)
	}
}

func TestListsReadAreNewMemory(t *testing.T) {
	b := "\x03\x02\x02\x04\x01\x06\x00"
	r, q := reader(b), reader(b)
	l, m := ReadList(r, 3, readNumbers), ReadList(q, 3, readNumbers)
	if fmt.Sprint(l) != "[[1 2] [3] []]" {
		t.Fatalf("W4: %v", l)
	}
	for i := range l {
		all := l[i][:cap(l[i])]
		for k := range all {
			all[k] = 99
		}
		if i > 0 && fmt.Sprint(l[2]) != "[]" || i == 0 && fmt.Sprint(l[1:]) != "[[3] []]" {
			t.Error("P3: two lists of an answer share memory")
		}
	}
	if fmt.Sprint(m) != "[[1 2] [3] []]" {
		t.Error("P3, P4: the answers of two Readers share memory")
	}
	whole(t, "lists", r)
}

// ten is a count of ten bytes, 2^63 and more, with this last byte.
func ten(last string) string { return "\x80\x81\xff\x80\x80\x80\x80\x80\x80" + last }

// faults has the rows of the document's table, and what is at their edges; of each the place.
var faults = []struct {
	kind byte
	most int
	text string
	at   int
}{
	// The bytes end within a count.
	{'n', 0, "", 0}, {'n', 0, "\x80", 1}, {'n', 0, "\xff\x80", 2}, {'n', 0, strings.Repeat("\x80", 9), 9},
	{'s', 0, "", 0}, {'s', 0, "\x81", 1}, {'s', 0, strings.Repeat("\xff", 9), 9},
	{'l', 9, "", 0}, {'l', 9, "\x81", 1}, {'l', 9, strings.Repeat("\xff", 9), 9},
	{'l', -1, "", 0}, {'l', -1, "\x80", 1}, {'l', 0, "\xff\xff", 2},
	// Its tenth byte is above 1.
	{'n', 0, ten("\x02"), 9}, {'n', 0, ten("\x7f"), 9}, {'n', 0, ten("\x80"), 9}, {'n', 0, ten("\x81"), 9},
	{'n', 0, ten("\xff"), 9}, {'n', 0, ten("\x80\x80\x00"), 9}, {'n', 0, ten("\x80\x01"), 9}, {'n', 0, ten("\x03ab"), 9},
	{'s', 0, ten("\x02"), 9}, {'s', 0, ten("\x80"), 9}, {'l', 9, ten("\x02"), 9}, {'l', -1, ten("\x80"), 9},
	// It has more bytes than it needs.
	{'n', 0, "\x80\x00", 1}, {'n', 0, "\xff\x00", 1}, {'n', 0, "\x80\x80\x00", 2}, {'n', 0, "\x81\xff\x00\x05", 2},
	{'n', 0, ten("\x00"), 9}, {'n', 0, strings.Repeat("\x80", 8) + "\x00", 8},
	{'s', 0, "\x81\x00a", 1}, {'s', 0, "\x80\x00", 1}, {'s', 0, ten("\x00"), 9},
	{'l', 9, "\x81\x00\x00", 1}, {'l', 0, "\x85\x00", 1}, {'l', -1, "\x80\x00", 1}, {'l', math.MaxInt, ten("\x00"), 9},
	// Truths.
	{'t', 0, "", 0}, {'t', 0, "\x02", 0}, {'t', 0, "\x80\x00", 0}, {'t', 0, "\x81", 0}, {'t', 0, "\xff", 0}, {'t', 0, "\x02\x01", 0},
	// A text says more bytes than are left.
	{'s', 0, "\x01", 1}, {'s', 0, "\x05a", 1}, {'s', 0, "\x05abcd", 1}, {'s', 0, "\x80\x01" + strings.Repeat("x", 127), 2},
	{'s', 0, ten("\x01abc"), 10}, {'s', 0, strings.Repeat("\xff", 9) + "\x01", 10}, {'s', 0, "\xff\xff\xff\xff\xff\xff\xff\xff\x7fa", 9},
	{'s', 0, "\xfc\xff\xff\xff\xff\xff\xff\xff\xff\x01abc", 10}, // with what is ahead, less than nothing in 64 bits
	// A list says more things than most.
	{'l', 0, "\x01\x00", 0}, {'l', 1, "\x02\x00\x00", 0}, {'l', -1, "\x00", 0}, {'l', -1, "\x01\x00", 0}, {'l', math.MinInt, "\x00", 0},
	{'l', 127, "\x80\x01", 0}, {'l', 9, "\x0a", 0}, {'l', math.MaxInt, ten("\x01"), 0}, {'l', math.MaxInt, strings.Repeat("\xff", 9) + "\x01", 0},
	{'l', math.MaxInt, "\x80\x80\x80\x80\x80\x80\x80\x80\x80\x01", 0}, {'l', math.MaxInt - 1, "\xff\xff\xff\xff\xff\xff\xff\xff\x7f", 0},
	// A thing of a list has a fault.
	{'l', 2, "\x02\x00", 2}, {'l', 2, "\x02\x00\x80\x00", 3}, {'l', 2, "\x02\x80\x00\x00", 2}, {'l', 2, "\x01", 1},
	{'l', math.MaxInt, "\xff\xff\xff\xff\xff\xff\xff\xff\x7f\x02\x04", 11}, {'l', 1000, "\xe8\x07\x00\x00\x00", 5},
}

// reads one thing of a kind, and tells it.
func reads(r *Reader, kind byte, most int) string {
	switch kind {
	case 'n':
		return fmt.Sprint(r.Int())
	case 't':
		return fmt.Sprint(r.Flag())
	case 's':
		return fmt.Sprintf("%q", r.Text())
	}
	l := ReadList(r, most, (*Reader).Int)
	if r.Err() != nil && l != nil {
		return "a list beside a fault"
	}
	return fmt.Sprint(l)
}

var nought = map[byte]string{'n': "0", 't': "false", 's': `""`, 'l': "[]"}

func TestFaultsAndTheirPlaces(t *testing.T) {
	for _, c := range faults {
		for _, ahead := range []int{0, 1, 2, 9, 200} {
			what := fmt.Sprintf("%c of % x behind %d", c.kind, c.text, ahead)
			r := reader(strings.Repeat("\x01", ahead) + c.text)
			for range ahead {
				if !r.Flag() {
					t.Fatalf("W3: %s: a truth ahead of it", what)
				}
			}
			if r.Err() != nil {
				t.Fatalf("W3: %s: %v ahead of it", what, r.Err())
			}
			if got := reads(r, c.kind, c.most); got != nought[c.kind] {
				t.Errorf("W3, P2: %s: %s beside a fault", what, got)
			}
			fails(t, what, r, ahead+c.at)
			nothingBehind(t, what, r, ahead+c.at)
		}
	}
}

// nothingBehind wants nought of all calls behind a fault, which stays.
func nothingBehind(t *testing.T, what string, r *Reader, at int) {
	t.Helper()
	for range 2 {
		for _, kind := range "tnslstn" {
			if got := reads(r, byte(kind), 9); got != nought[byte(kind)] {
				t.Errorf("W3: %s: %s behind the fault, asked for %c", what, got, kind)
			}
		}
		for _, most := range []int{math.MinInt, -1, 0, math.MaxInt} {
			l := ReadList(r, most, func(*Reader) int {
				t.Errorf("W4: %s: one is called behind the fault", what)
				return 1
			})
			if l != nil {
				t.Errorf("W4: %s: a list of %d behind the fault", what, len(l))
			}
		}
		fails(t, what, r, at)
	}
}

func TestFirstFaultStays(t *testing.T) {
	// Behind the fault stand things that could be read, and other faults.
	r := reader("\x01\x02\x80\x00\x01\x01\x05a")
	if !r.Flag() {
		t.Error("W3: a truth")
	}
	r.Flag()
	fails(t, "a truth of 02", r, 1)
	nothingBehind(t, "a truth of 02", r, 1)
	r = reader("")
	r.Int()
	ReadList(r, -1, (*Reader).Int)
	fails(t, "nothing", r, 0)
	r = reader("\x02\x01ab")
	ReadList(r, 1, (*Reader).Text)
	r.Text()
	fails(t, "two things where one may be", r, 0)
}

func TestFaultIsNewMemory(t *testing.T) {
	r := reader("\x80\x80\x00")
	r.Int()
	var f *api.Fault
	if !errors.As(r.Err(), &f) {
		t.Fatal("P5: errors.As does not find the fault")
	}
	f.At, f.Err = 77, api.OK
	fails(t, "a fault that was written over", r, 2)
	for _, other := range []error{api.OK, api.ErrArg, api.ErrSyntax, api.ErrCond} {
		if errors.Is(r.Err(), other) {
			t.Errorf("P5: the fault is %v", other)
		}
	}
	if got := r.Err().Error(); got != "tocsin: error 60 at 2" {
		t.Errorf("P5: %q", got)
	}
}

func TestNoFault(t *testing.T) {
	r := reader("\x02\x01\x01a\x01\x04")
	check := func(what string, end bool) {
		t.Helper()
		if err := r.Err(); err != nil {
			t.Errorf("W3: %s: %v", what, err)
		}
		if r.End() != end {
			t.Errorf("W3: %s: End tells %v", what, !end)
		}
	}
	check("ahead of all", false)
	r.Int()
	check("behind a number", false)
	r.Flag()
	check("behind a truth", false)
	r.Text()
	check("behind a text", false)
	readNumbers(r)
	check("behind all", true)
	check("behind all, asked again", true)
	if r.Flag() {
		t.Error("W3: a truth behind all")
	}
	fails(t, "a truth behind all", r, 6)
}

func TestEndOfNothing(t *testing.T) {
	for _, b := range [][]byte{nil, {}, make([]byte, 0, 9)} {
		r := NewReader(b)
		if r == nil {
			t.Fatal("W3: no Reader")
		}
		whole(t, "no bytes", r)
		if r.Int() != 0 || r.End() {
			t.Error("W3: a number of no bytes")
		}
		fails(t, "a number of no bytes", r, 0)
	}
	r := reader("\x00")
	if r.End() || r.Text() != "" {
		t.Error("W3: the empty text")
	}
	whole(t, "the empty text", r)
	r = reader("\x00")
	if l := ReadList(r, 0, (*Reader).Text); len(l) != 0 {
		t.Errorf("W4: %d things of none", len(l))
	}
	whole(t, "a list of none", r)
}

func TestOneThatReadsNothing(t *testing.T) {
	for _, c := range []struct {
		text string
		n    int
	}{{"\x00", 0}, {"\x01", 1}, {"\x05", 5}, {"\x05\x01\x01", 5}, {"\xe8\x07", 1000}, {"\xe8\x07\x00\x00", 1000}, {"\xa0\x8d\x06", 100000}} {
		r := reader(c.text)
		calls := 0
		l := ReadList(r, c.n, func(*Reader) int { calls++; return calls })
		if len(l) != c.n || calls != c.n || r.Err() != nil {
			t.Fatalf("W4: % x: %d things of %d calls, %v; want %d", c.text, len(l), calls, r.Err(), c.n)
		}
		for i, x := range l {
			if x != i+1 {
				t.Fatalf("W4: % x: thing %d is %d", c.text, i, x)
			}
		}
		if got, want := r.End(), c.text == countBytes(big.NewInt(int64(c.n))); got != want {
			t.Errorf("W4: % x: End tells %v behind a one that reads nothing", c.text, got)
		}
		r = reader(c.text)
		if l := ReadList(r, c.n-1, func(*Reader) int { t.Error("W4: one is called of too many things"); return 1 }); l != nil {
			t.Errorf("W4: % x: %d things with most %d", c.text, len(l), c.n-1)
		}
		fails(t, "a list of too many", r, 0)
	}
	wants(t, "W4: a one that writes nothing", written(func(w *Writer) { WriteList(w, []int{7, 8}, func(*Writer, int) {}) }), "\x02")
}

func TestOneIsCalledTillTheFault(t *testing.T) {
	for fine := range 6 {
		r := reader("\x06" + strings.Repeat("\x01", fine) + "\x09\x01\x01\x01\x01\x01")
		calls := 0
		l := ReadList(r, 6, func(r *Reader) bool { calls++; return r.Flag() })
		if l != nil || calls != fine+1 {
			t.Errorf("W4: %d things of %d calls, want none of %d", len(l), calls, fine+1)
		}
		fails(t, "a list with a wrong truth", r, fine+1)
	}
	// The fault of another Reader is none of this one.
	other := reader("")
	r := reader("\x02\x01\x00")
	if l := ReadList(r, 2, func(r *Reader) bool { other.Int(); return r.Flag() }); len(l) != 2 {
		t.Errorf("W4: %d things beside another Reader's fault, want 2", len(l))
	}
	whole(t, "a list beside another Reader's fault", r)
	fails(t, "the other Reader", other, 0)
	// A fault deep within leaves no list around it.
	r = reader("\x02\x01\x01\x01\x01\x02\x01\x05\x01")
	l := ReadList(r, 9, func(r *Reader) [][]bool {
		return ReadList(r, 9, func(r *Reader) []bool { return ReadList(r, 9, (*Reader).Flag) })
	})
	if l != nil {
		t.Errorf("W4: %v around a fault", l)
	}
	fails(t, "a fault deep within", r, 7)
}

func TestNoOne(t *testing.T) {
	wants(t, "P1: WriteList without one", written(func(w *Writer) { WriteList[int](w, []int{1, 2}, nil) }), "\x02")
	r := reader("\x02\x01")
	if l := ReadList[int](r, 5, nil); !slices.Equal(l, []int{0, 0}) || !r.Flag() {
		t.Errorf("P1: ReadList without one: %v", l)
	}
	if l := ReadList[int](r, 5, nil); l != nil {
		t.Errorf("P1: ReadList without one, of no bytes: %v", l)
	}
	fails(t, "ReadList without one", r, 2)
}

// allocated is how many bytes are made while f runs.
func allocated(f func()) uint64 {
	var from, to runtime.MemStats
	runtime.ReadMemStats(&from)
	f()
	runtime.ReadMemStats(&to)
	return to.TotalAlloc - from.TotalAlloc
}

func TestCountsThatLieCostLittle(t *testing.T) {
	lie := "\xff\xff\xff\xff\xff\xff\xff\xff\x7f"
	for _, behind := range []int{0, 1, 100, 10000} {
		r := reader(lie + strings.Repeat("\x00", behind))
		cost := allocated(func() {
			if l := ReadList(r, math.MaxInt, (*Reader).Int); l != nil {
				t.Errorf("W4: %d things of a count that lies", len(l))
			}
		})
		fails(t, "a count that lies", r, len(lie)+behind)
		if most := uint64(40*behind + 10000); cost > most {
			t.Errorf("W4: a count that lies over %d bytes makes %d bytes, want at most %d", behind, cost, most)
		}
		r = reader(lie + strings.Repeat("x", behind))
		cost = allocated(func() { r.Text() })
		fails(t, "a text that lies", r, len(lie))
		if cost > 10000 {
			t.Errorf("W3: a text that lies over %d bytes makes %d bytes", behind, cost)
		}
	}
}

func TestRoomOfCountsThatLie(t *testing.T) {
	type page [1 << 16]byte
	for behind := 1; behind <= 4; behind++ {
		r := reader("\x64" + strings.Repeat("\x01", behind))
		cost := allocated(func() {
			ReadList(r, 100, func(r *Reader) (x page) { x[0] = byte(r.Int()); return x })
		})
		fails(t, "a list of 100 pages", r, behind+1)
		if most := uint64(2*behind+1) << 16; cost > most {
			t.Errorf("W4: 100 pages of %d bytes make %d bytes, want at most %d", behind, cost, most)
		}
	}
}

type tree struct{ below []tree }

func readTree(r *Reader) tree { return tree{ReadList(r, math.MaxInt, readTree)} }

func TestListsInListsThatAllLie(t *testing.T) {
	const depth = 10000
	// In the second text each list has one of none, ahead of the one that lies as well.
	for _, text := range []string{"\xff\x7f", "\xff\x7f\x00"} {
		r := reader(strings.Repeat(text, depth))
		cost := allocated(func() { readTree(r) })
		fails(t, "lists that lie in lists that lie", r, len(text)*depth)
		if cost > 1000*depth {
			t.Errorf("W4: %d lists that lie make %d bytes", depth, cost)
		}
	}
	r := reader(strings.Repeat("\x01", depth) + "\x00")
	x, down := readTree(r), 0
	for ; len(x.below) == 1; down++ {
		x = x.below[0]
	}
	if down != depth {
		t.Errorf("W4: lists in lists: %d deep, want %d", down, depth)
	}
	whole(t, "lists in lists", r)
}

func TestRoomIsNoMoreThanBytes(t *testing.T) {
	for n := range 300 {
		b := written(func(w *Writer) { truths(w, make([]bool, n)) })
		r := reader(b)
		if l := ReadList(r, math.MaxInt, (*Reader).Flag); len(l) != n || cap(l) > n {
			t.Errorf("W4: a list of %d of as many bytes has room for %d", len(l), cap(l))
		}
	}
}

func TestLongRows(t *testing.T) {
	began := time.Now()
	const n = 300000
	w := NewWriter()
	for i := range n {
		w.Int(int64(i))
		w.Flag(i%3 == 0)
		w.Text("ab")
	}
	r := NewReader(w.Bytes())
	for i := range n {
		if r.Int() != int64(i) || r.Flag() != (i%3 == 0) || r.Text() != "ab" || r.End() != (i == n-1) {
			t.Fatalf("W2, W3: thing %d of a long row", i)
		}
	}
	long := strings.Repeat("x", 1<<24)
	w.Text(long)
	if b := w.Bytes(); !strings.HasSuffix(string(b), "\x80\x80\x80\x08"+long) {
		t.Error("W2: a long text")
	}
	if took := time.Since(began); took > 20*time.Second {
		t.Errorf("P1: long rows take %v", took)
	}
}
