package sign

import (
	"iter"
	"slices"
	"strings"
	"testing"
	"unicode/utf8"
)

// The calls as they were given: none of them has an error to answer (P2).
var (
	_ func(string) bool                = Valid
	_ func(string) string              = Fold
	_ func(rune) bool                  = IsWord
	_ func(string, int) bool           = Edge
	_ func(string) iter.Seq2[int, int] = Words
	_ func(string, string) bool        = Has
)

// pieces make texts in which signs of all lengths, wrong bytes, signs cut short, and signs of words and of none meet.
var pieces = []string{"a", "B", " ", "-", "é", "É", "×", "€", "日", "😀", "\uFFFD", "\xff", "\x80", "\xc3", "\xe2\x82", "\xf0\x9f\x98"}

// allTexts gives all rows of at most n pieces.
func allTexts(parts []string, n int) iter.Seq[string] {
	return func(yield func(string) bool) {
		var grow func(front string, left int) bool
		grow = func(front string, left int) bool {
			if !yield(front) {
				return false
			}
			if left == 0 {
				return true
			}
			for _, p := range parts {
				if !grow(front+p, left-1) {
					return false
				}
			}
			return true
		}
		grow("", n)
	}
}

// part is a sign of a text, found without range: the model that the calls are held against.
type part struct {
	from, to int
	r        rune
	wrong    bool
}

// split cuts a text into signs by the first bytes' table of UTF-8.
func split(s string) []part {
	var out []part
	for at := 0; at < len(s); {
		size, r := length(s[at:])
		p := part{from: at, to: at + size, r: r}
		if size == 0 {
			p.to, p.wrong = at+1, true
		}
		out = append(out, p)
		at = p.to
	}
	return out
}

// length tells how many bytes the sign has with which s begins, and the sign; 0 if its first byte is wrong.
func length(s string) (int, rune) {
	least := []rune{0, 0, 0x80, 0x800, 0x10000}
	size, r := 0, rune(0)
	switch c := s[0]; {
	case c < 0x80:
		return 1, rune(c)
	case c >= 0xC0 && c < 0xE0:
		size, r = 2, rune(c&0x1F)
	case c >= 0xE0 && c < 0xF0:
		size, r = 3, rune(c&0x0F)
	case c >= 0xF0 && c < 0xF8:
		size, r = 4, rune(c&0x07)
	}
	if size == 0 || len(s) < size {
		return 0, 0
	}
	for _, c := range []byte(s[1:size]) {
		if c&0xC0 != 0x80 {
			return 0, 0
		}
		r = r<<6 | rune(c&0x3F)
	}
	if r < least[size] || r > 0x10FFFF || r >= 0xD800 && r <= 0xDFFF {
		return 0, 0
	}
	return size, r
}

func (p part) word() bool { return !p.wrong && wordByDocument(p.r) }

// wordByDocument is S3, as a list of what is and of what is not.
func wordByDocument(r rune) bool {
	in := func(runs [][2]rune) bool {
		return slices.ContainsFunc(runs, func(run [2]rune) bool { return r >= run[0] && r <= run[1] })
	}
	return in([][2]rune{{'0', '9'}, {'A', 'Z'}, {'a', 'z'}, {'_', '_'}, {0xC0, 0x10FFFF}}) &&
		!in([][2]rune{{0xD7, 0xD7}, {0xF7, 0xF7}, {0x2000, 0x206F}, {0x3000, 0x303F}, {0xD800, 0xDFFF}, {0xFF00, 0xFF0F}, {0xFFFD, 0xFFFD}})
}

// smallByDocument is S2's table, row by row as it is written there.
func smallByDocument(r rune) rune {
	in := func(a, b rune) bool { return r >= a && r <= b }
	even := r%2 == 0
	switch {
	case in('A', 'Z'), in(0xC0, 0xDE) && r != 0xD7:
		return r + 32
	case (in(0x100, 0x12F) || in(0x132, 0x137) || in(0x14A, 0x177)) && even:
		return r + 1
	case (in(0x139, 0x148) || in(0x179, 0x17E)) && !even:
		return r + 1
	case r == 0x178:
		return 0xFF
	case r == 0x386:
		return 0x3AC
	case r == 0x388, r == 0x389, r == 0x38A:
		return r + 37
	case r == 0x38C:
		return 0x3CC
	case r == 0x38E, r == 0x38F:
		return r + 63
	case in(0x391, 0x3A1), in(0x3A3, 0x3AB):
		return r + 32
	case r == 0x3C2:
		return 0x3C3
	case in(0x400, 0x40F):
		return r + 80
	case in(0x410, 0x42F), in(0xFF21, 0xFF3A):
		return r + 32
	}
	return r
}

// edgesOf gives the edges of a text by the model.
func edgesOf(s string) []int {
	if s == "" {
		return []int{0}
	}
	parts := split(s)
	out := []int{0}
	for i := 1; i < len(parts); i++ {
		if !parts[i-1].word() || !parts[i].word() {
			out = append(out, parts[i].from)
		}
	}
	return append(out, len(s))
}

// wordsOf gives the words of a text by the model.
func wordsOf(s string) [][2]int {
	var out [][2]int
	for _, p := range split(s) {
		last := len(out) - 1
		switch {
		case !p.word():
		case last >= 0 && out[last][1] == p.from:
			out[last][1] = p.to
		default:
			out = append(out, [2]int{p.from, p.to})
		}
	}
	return out
}

// hasByTrying is S6, each pair of edges tried.
func hasByTrying(text, sought string) bool {
	edges := edgesOf(text)
	small := Fold(text)
	for i, from := range edges {
		for _, to := range edges[i:] {
			if sought != "" && small[from:to] == Fold(sought) {
				return true
			}
		}
	}
	return false
}

func collect(s string) [][2]int {
	var out [][2]int
	for from, to := range Words(s) {
		out = append(out, [2]int{from, to})
	}
	return out
}

func TestValidOfEdges(t *testing.T) { // S1
	for _, s := range []string{"", "plain", "\x00", "\x7f", "\u0080", "\u07ff", "\u0800", "\ud7ff", "\ue000", "\uffff", "\U00010000", "\U0010ffff", "\uFFFD", "a\uFFFD"} {
		if !Valid(s) {
			t.Errorf("Valid(%q) is false", s)
		}
	}
	for _, s := range []string{"\x80", "\xbf", "\xc0\x80", "\xc1\xbf", "\xe0\x9f\xbf", "\xed\xa0\x80", "\xed\xbf\xbf", "\xf0\x8f\xbf\xbf", "\xf4\x90\x80\x80", "\xf8\x88\x80\x80\x80", "\xfe", "\xff", "\xef\xbf", "\xef\xbf\xbd\xef\xbf", "\uFFFD\xff", "A\xffB", "end\xc3"} {
		if Valid(s) {
			t.Errorf("Valid(%q) is true", s)
		}
	}
}

func TestValidOfAllTexts(t *testing.T) { // S1
	for s := range allTexts(pieces, 4) {
		want := !slices.ContainsFunc(split(s), func(p part) bool { return p.wrong })
		if Valid(s) != want {
			t.Fatalf("Valid(%q) is %v", s, !want)
		}
	}
}

func TestFoldOfAllSigns(t *testing.T) { // S2
	for r := rune(0); r <= utf8.MaxRune; r++ {
		if r >= 0xD800 && r <= 0xDFFF {
			continue
		}
		if got, want := Fold(string(r)), string(smallByDocument(r)); got != want {
			t.Errorf("Fold of %U is %+q, want %+q", r, got, want)
		}
	}
}

func TestFoldOfTexts(t *testing.T) { // S2
	for _, c := range [][2]string{
		{"", ""},
		{"Émile Ærø ΣΊΣΥΦΟΣ", "émile ærø σίσυφοσ"},
		{"A\xffB", "a\xffb"},
		{"\xc3A\x89", "\xc3a\x89"},
		{"\xff\uFFFD\xef\xbfZ", "\xff\uFFFD\xef\xbfz"},
		{"İIı", "İiı"},
	} {
		if got := Fold(c[0]); got != c[1] {
			t.Errorf("Fold(%q) is %q, want %q", c[0], got, c[1])
		}
	}
}

func TestFoldKeepsPlaces(t *testing.T) { // S2, what follows
	for s := range allTexts(pieces, 4) {
		got := Fold(s)
		want := ""
		for _, p := range split(s) {
			if p.wrong {
				want += s[p.from:p.to]
			} else {
				want += string(smallByDocument(p.r))
			}
		}
		if got != want || len(got) != len(s) || Fold(got) != got || Valid(got) != Valid(s) {
			t.Fatalf("Fold(%q) is %q, want %q", s, got, want)
		}
	}
}

func TestIsWordOfAllNumbers(t *testing.T) { // S3
	for r := rune(-0x1000); r <= 0x120000; r++ {
		if IsWord(r) != wordByDocument(r) {
			t.Errorf("IsWord(%#x) is %v", r, IsWord(r))
		}
	}
	for _, r := range []rune{-1 << 31, 1<<31 - 1} {
		if IsWord(r) {
			t.Errorf("IsWord(%d) is true", r)
		}
	}
}

func TestIsWordOfSmallOnes(t *testing.T) { // S3, what follows
	for r := rune(0); r <= utf8.MaxRune; r++ {
		if IsWord(r) != IsWord(small(r)) {
			t.Errorf("IsWord tells %U and its small one apart", r)
		}
	}
}

func TestEdgeOfExamples(t *testing.T) { // S4
	for _, c := range []struct {
		s    string
		at   int
		want bool
	}{
		{"ab c", 0, true}, {"ab c", 1, false}, {"ab c", 2, true}, {"ab c", 3, true}, {"ab c", 4, true}, {"ab c", 5, false}, {"ab c", -1, false},
		{"é", 0, true}, {"é", 1, false}, {"é", 2, true},
		{"", 0, true}, {"", 1, false}, {"", -1, false},
		{"😀", 1, false}, {"😀", 2, false}, {"😀", 3, false}, {"😀", 4, true},
		{"\x80\x80\x80\x80\x80", 4, true}, {"a\xe2\x82b", 2, true},
		{"ab", 1<<63 - 1, false}, {"ab", -1 << 63, false},
	} {
		if Edge(c.s, c.at) != c.want {
			t.Errorf("Edge(%q, %d) is %v", c.s, c.at, !c.want)
		}
	}
}

func TestEdgeOfAllTexts(t *testing.T) { // S4
	for s := range allTexts(pieces, 4) {
		edges := edgesOf(s)
		for at := -2; at <= len(s)+2; at++ {
			if want := slices.Contains(edges, at); Edge(s, at) != want {
				t.Fatalf("Edge(%q, %d) is %v", s, at, !want)
			}
		}
	}
}

func TestWordsOfAllTexts(t *testing.T) { // S5
	if got := collect("it's 3 o'clock_x"); !slices.Equal(got, [][2]int{{0, 2}, {3, 4}, {5, 6}, {7, 8}, {9, 16}}) {
		t.Errorf("the words are %v", got)
	}
	for s := range allTexts(pieces, 4) {
		if got, want := collect(s), wordsOf(s); !slices.Equal(got, want) {
			t.Fatalf("Words(%q) gives %v, want %v", s, got, want)
		}
	}
}

func TestWordsStopEarly(t *testing.T) { // S5
	words := Words("one two three")
	for stop := 1; stop <= 3; stop++ {
		calls := 0
		words(func(int, int) bool {
			calls++
			return calls < stop
		})
		if calls != stop {
			t.Errorf("stopped at word %d, %d were given", stop, calls)
		}
	}
}

func TestWordsGoSeveralTimes(t *testing.T) { // S5, P4: one going-through knows nothing of another
	words := Words("one two three")
	pairs := 0
	for a := range words {
		at := 0
		for b := range words {
			if want := []int{0, 4, 8}[at]; b != want {
				t.Errorf("within word %d, word %d begins at %d", a, at, b)
			}
			at++
			pairs++
		}
	}
	if pairs != 9 {
		t.Errorf("%d pairs of words", pairs)
	}
}

func TestHasOfExamples(t *testing.T) { // S6
	for _, c := range []struct {
		text, part string
		want       bool
	}{
		{"Hi Anna!", "anna", true}, {"Hi Annabel", "anna", false}, {"a (b) c", "(B)", true},
		{"x", "", false}, {"", "", false}, {"", "a", false}, {"ab", "b", false}, {"ab", "a", false}, {"ab", "abc", false},
		{"a\xffb", "\xff", true}, {"é", "\xc3", false}, {"é", "\xa9", false},
		{"annaanna anna", "ANNA", true}, {"annaanna", "anna", false},
		{"-aab-aab-a", "-aab-a", true}, {"-aab-aab-ab", "-aab-a", false},
		{"Ο ΣΊΣΥΦΟΣ", "Σίσυφος", true}, {"a b", " ", true}, {"a b", "b", true},
	} {
		if Has(c.text, c.part) != c.want {
			t.Errorf("Has(%q, %q) is %v", c.text, c.part, !c.want)
		}
	}
}

func TestHasOfAllTexts(t *testing.T) { // S6
	few := []string{"a", "A", "b", "-", "é", "É", "\xc3", "\xa9"}
	for text := range allTexts(few, 4) {
		for sought := range allTexts(few, 2) {
			if want := hasByTrying(text, sought); Has(text, sought) != want {
				t.Fatalf("Has(%q, %q) is %v", text, sought, !want)
			}
		}
	}
}

func TestHasOfRepeats(t *testing.T) { // S6
	few := []string{"a", "-"}
	for text := range allTexts(few, 9) {
		for sought := range allTexts(few, 5) {
			if want := hasByTrying(text, sought); Has(text, sought) != want {
				t.Fatalf("Has(%q, %q) is %v", text, sought, !want)
			}
		}
	}
}

func TestHasEndsSoon(t *testing.T) { // P1, S6: tried place by place, each of these would take 10^11 steps and more
	text := strings.Repeat("-aab", 1<<19)
	part := strings.Repeat("-aab", 1<<18) + "-a"
	if Has(text, part) {
		t.Error("there is no edge behind the part")
	}
	if !Has(text+"-a", part) {
		t.Error("the part stands at the end")
	}
}

func TestEveryByteIsTaken(t *testing.T) { // P1
	for c := range 1 << 16 {
		s := string([]byte{byte(c >> 8), byte(c), 'A'})
		if got := Fold(s); len(got) != len(s) {
			t.Fatalf("Fold(%q) is %q", s, got)
		}
		if got := collect(s); !slices.Equal(got, wordsOf(s)) {
			t.Fatalf("Words(%q) gives %v", s, got)
		}
		for at := -1; at <= len(s)+1; at++ {
			if Edge(s, at) != slices.Contains(edgesOf(s), at) {
				t.Fatalf("Edge(%q, %d) is %v", s, at, Edge(s, at))
			}
		}
		if Valid(s) != utf8.ValidString(s) || !Has(s, s) {
			t.Fatalf("%q: valid %v, has itself %v", s, Valid(s), Has(s, s))
		}
	}
}

func TestHandedInStays(t *testing.T) { // P3
	text := strings.Clone("Ab É\xff")
	before := strings.Clone(text)
	Fold(text)
	Has(text, text[1:3])
	collect(text)
	if text != before {
		t.Errorf("%q became %q", before, text)
	}
}

func TestAnswersHangOnArguments(t *testing.T) { // P4: at once, and one behind the other, they are the same
	texts := []string{"Hi Anna!", "A\xffB", "ΣΊΣΥΦΟΣ", "", "日本 語"}
	tell := func(s string) string { return Fold(s) + "|" + Fold(texts[0]) }
	want := make([]string, len(texts))
	for i, s := range texts {
		want[i] = tell(s)
	}
	done := make(chan bool)
	for range 8 {
		go func() {
			same := true
			for i := len(texts) - 1; i >= 0; i-- {
				same = same && tell(texts[i]) == want[i] && Has(texts[0], "anna") && !Has(texts[i], "nobody")
			}
			done <- same
		}()
	}
	for range 8 {
		if !<-done {
			t.Error("an answer was another one")
		}
	}
}
