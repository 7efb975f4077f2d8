package glob

import (
	"math/rand"
	"slices"
	"strings"
	"sync"
	"testing"
	"time"

	"tocsin/api"
	"tocsin/sign"
)

// The calls as they were given.
var (
	_ func(string) (*Glob, api.Errno) = Compile
	_ func(*Glob, string) bool        = (*Glob).Whole
	_ func(*Glob, string) bool        = (*Glob).Within
	_ func(*Glob) (string, bool)      = (*Glob).Literal
	_ func(*Glob) string              = (*Glob).Front
	_ func(*Glob) string              = (*Glob).String
)

func made(t *testing.T, pattern string) *Glob {
	t.Helper()
	g, errno := Compile(pattern)
	if errno != api.OK || g == nil {
		t.Fatalf("G1: Compile(%q) gives a Glob: %v, error %d; want one, and none", pattern, g != nil, errno)
	}
	return g
}

func refused(t *testing.T, pattern string) {
	t.Helper()
	if g, errno := Compile(pattern); errno != api.ErrPattern || g != nil {
		t.Errorf("G1, P2: Compile(%q) gives a Glob: %v, error %d; want none, and ErrPattern", pattern, g != nil, errno)
	}
}

func TestPatternsThatMayNotBe(t *testing.T) {
	for _, pattern := range []string{
		`\`, `a\`, `*\`, `\\\`, `\a`, `\ `, `\é`, `\😀`, `*\n`, `a\*\b`, "\\\x00", "\\\uFFFD", `\A*`, `\"`, `\/`,
		"\xff", "a\xff", "*\x80", "\xc3", "é\xc3", "\\\xff", "\xed\xa0\x80", "\xc0\xaa", "\xf4\x90\x80\x80", "\xe2\x82", "?\xf0\x9f\x98",
		strings.Repeat("a", 101), strings.Repeat("*", 101), strings.Repeat("?", 101), strings.Repeat("é", 51), strings.Repeat("😀", 26), strings.Repeat(`\*`, 51),
		strings.Repeat(`\*`, 50) + "a", strings.Repeat("a", 99) + "é", strings.Repeat("a", 99) + `\`, strings.Repeat("a", 100) + `\`, strings.Repeat("*", 1<<20),
	} {
		refused(t, pattern)
	}
}

func TestPatternsAtTheLimit(t *testing.T) {
	for _, pattern := range []string{
		strings.Repeat("A", 100), strings.Repeat("*", 100), strings.Repeat("?", 100), strings.Repeat("É", 50), strings.Repeat("😀", 25), strings.Repeat(`\*`, 50),
		strings.Repeat("*a", 50), strings.Repeat("?*", 50), strings.Repeat(`*\\?`, 25), strings.Repeat("a", 98) + `\?`, strings.Repeat("Ж*", 33) + "?",
	} {
		g := made(t, pattern)
		parts, _ := modelRead(pattern)
		if got, want := g.String(), modelString(parts); got != want {
			t.Errorf("G5: %q: String is %q, want %q", pattern, got, want)
		}
		text := strings.ToLower(strings.NewReplacer(`\*`, "*", `\?`, "?", `\\`, `\`).Replace(pattern))
		if !g.Whole(text) || !g.Whole(strings.ToUpper(text)) {
			t.Errorf("G2: %q does not mean %q", pattern, text)
		}
	}
}

// TestAllPatterns: all short rows of pieces, as the parts of patterns and as what may not be.
func TestAllPatterns(t *testing.T) {
	pieces := []string{"*", "?", `\`, "a", "B", "É", "σ", "ς", "😀", "\uFFFD", "\xff", "\xc3"}
	for pattern := range rows(pieces, 4) {
		parts, ok := modelRead(pattern)
		if !ok {
			refused(t, pattern)
			continue
		}
		holdWritten(t, pattern, parts)
	}
	for pattern := range rows([]string{"*", "?", `\`, "A"}, 7) {
		if parts, ok := modelRead(pattern); ok {
			holdWritten(t, pattern, parts)
		} else {
			refused(t, pattern)
		}
	}
}

// holdWritten holds what a pattern tells of itself against the model.
func holdWritten(t *testing.T, pattern string, parts []modelPart) {
	t.Helper()
	g := made(t, pattern)
	front, all := modelFront(parts)
	literal := front
	if !all {
		literal = ""
	}
	if got, is := g.Literal(); got != literal || is != all {
		t.Errorf("G4: %q: Literal is %q, %v, want %q, %v", pattern, got, is, literal, all)
	}
	if got := g.Front(); got != front {
		t.Errorf("G4: %q: Front is %q, want %q", pattern, got, front)
	}
	written := g.String()
	if want := modelString(parts); written != want {
		t.Errorf("G5: %q: String is %q, want %q", pattern, written, want)
	}
	if len(written) > len(pattern) {
		t.Errorf("G5: %q: String is %q, which is longer", pattern, written)
	}
	if again := made(t, written).String(); again != written {
		t.Errorf("G5: %q: String is %q, and of that %q", pattern, written, again)
	}
}

func TestWrittenOut(t *testing.T) {
	for _, row := range []struct {
		pattern, front, literal string
		all                     bool
		written                 string
	}{
		{"", "", "", true, ""},
		{"l?ve*", "l", "", false, "l?ve*"},
		{"**?a?*", "", "", false, "?*a?*"},
		{`A\*B`, "a*b", "a*b", true, `a\*b`},
		{`\\\*\?`, `\*?`, `\*?`, true, `\\\*\?`},
		{`\**\??\\`, "*", "", false, `\**\??\\`},
		{"*", "", "", false, "*"},
		{"?", "", "", false, "?"},
		{"AB*CD", "ab", "", false, "ab*cd"},
		{"*?*?*", "", "", false, "??*"},
		{"?*?a*?*b**", "", "", false, "??*a?*b*"},
		{"*a*", "", "", false, "*a*"},
		{"ΣΊΣΥΦΟΣ ς", "σίσυφοσ σ", "σίσυφοσ σ", true, "σίσυφοσ σ"},
		{"Ÿ Ａ Я İ ẞ K", "ÿ ａ я İ ẞ k", "ÿ ａ я İ ẞ k", true, "ÿ ａ я İ ẞ k"},
		{"\x00\uFFFD\n", "\x00\uFFFD\n", "\x00\uFFFD\n", true, "\x00\uFFFD\n"},
	} {
		g := made(t, row.pattern)
		for range 2 {
			literal, all := g.Literal()
			if g.Front() != row.front || literal != row.literal || all != row.all || g.String() != row.written {
				t.Errorf("G4, G5: %q: Front %q, Literal %q %v, String %q; want %q, %q %v, %q", row.pattern, g.Front(), literal, all, g.String(), row.front, row.literal, row.all, row.written)
			}
		}
	}
}

// A meaning is a pattern, with texts of which a call says yes, and no.
type meaning struct {
	pattern string
	yes, no []string
}

func holdMeanings(t *testing.T, promise string, call func(*Glob, string) bool, meanings []meaning) {
	t.Helper()
	for _, m := range meanings {
		g := made(t, m.pattern)
		for _, text := range m.yes {
			if !call(g, text) {
				t.Errorf("%s: %q and %.40q: false, want true", promise, m.pattern, text)
			}
		}
		for _, text := range m.no {
			if call(g, text) {
				t.Errorf("%s: %q and %.40q: true, want false", promise, m.pattern, text)
			}
		}
	}
}

func TestMeantWhole(t *testing.T) {
	holdMeanings(t, "G2", (*Glob).Whole, []meaning{
		{"", []string{""}, []string{"a", " ", "*", "\x00", "\xff"}},
		{"*", []string{"", "a", "\n", "日本", "\uFFFD", strings.Repeat("é ", 900)}, []string{"\xff", "a\xff", "\xe2\x82", "\xed\xa0\x80"}},
		{"?", []string{"a", "É", "😀", "\n", "\x00", "\uFFFD", "?", "*"}, []string{"", "ab", "éé", "\xff", "\xc3", "\x80"}},
		{"??", []string{"ab", "é😀"}, []string{"", "a", "é", "abc", "a\xff", "😀"}},
		{"l?ve*", []string{"Love", "live long", "L?VE", "lévE\n"}, []string{"lve", "love\xff", "xlove", "lov", "loove", ""}},
		{"**?a?*", []string{"xay", "aaa", "  a  "}, []string{"a", "xa", "ay", "xy", ""}},
		{`A\*B`, []string{"a*b", "A*B"}, []string{"ab", "aXb", `a\*b`, "a**b", `A\*B`}},
		{`\?`, []string{"?"}, []string{"a", `\?`, ""}},
		{`\\*`, []string{`\`, `\a`, `\\`}, []string{"", "*", "a"}},
		{"a*b*c", []string{"abc", "aXbYc", "abcbc", "ABBC", "a*b*c"}, []string{"acb", "abcd", "ab", "bc", "xabc"}},
		{"*a", []string{"a", "aa", "ba", "ababa"}, []string{"", "ab", "b"}},
		{"*ab*ab", []string{"abab", "ababab", "abxab"}, []string{"ab", "aba", "abb", "aab"}},
		{"ς", []string{"σ", "ς", "Σ"}, []string{"s"}},
		{"Я*Ё", []string{"яё", "ЯЁ", "я ё"}, []string{"яе", "ё"}},
		{"ŸÀ", []string{"ÿà", "ŸÀ", "ÿÀ"}, []string{"ya"}},
		// What the library's tables call letters of two sizes, the document's does not.
		{"k", []string{"K"}, []string{"\u212A"}},
		{"ß", []string{"ß"}, []string{"ẞ", "ss", "SS"}},
		{"\uFFFD", []string{"\uFFFD"}, []string{"\xff", "\xef\xbf", "?"}},
		{"×", []string{"×"}, []string{"÷"}},
	})
}

func TestMeantWithin(t *testing.T) {
	holdMeanings(t, "G3", (*Glob).Within, []meaning{
		{"cake*lie", []string{"The CAKE, a lie!", "cake lie", "cakelie", "cake cakes lies lie", "é cake\nlie.", "cakes lie"}, []string{"pancake lie", "cake lies", "lie cake", "cake, a lie\xff", ""}},
		{"cake", []string{"cake", "a cake", "Cake!", "cakes, cake", "pancake cake"}, []string{"cakes", "pancake", "cake_", "cake2", "ca ke", "cake\xff", "caké", ""}},
		{"", []string{"", "a", "é", "ab", " "}, []string{"\xff", "a\xff", "\xc3"}},
		{"*", []string{"", "ab"}, []string{"\xff", " \x80"}},
		{"?", []string{"a", "!", "ab!", "ab c", "😀"}, []string{"", "ab", "日本", "\xff"}},
		{"??", []string{"ab", " a", "!!", "xyz ?!"}, []string{"", "a", "abc", "!"}},
		{"?*", []string{"ab", "abc", " "}, []string{""}},
		{" ", []string{" ", "a b", "  "}, []string{"", "a", "\u2003"}},
		{"b*", []string{"b", "bc", "a bc"}, []string{"ab", "abc", "a_b"}},
		{"*b", []string{"b", "ab", "ab c"}, []string{"bc", "a bc", "b_"}},
		{"a b", []string{"a b", "x a b y", "(A B)"}, []string{"xa b", "a bx", "a  b"}},
		{"(b)", []string{"a (b) c", "(B)", "a(b)c"}, []string{"b", "(bb)"}},
		{"!", []string{"!", "a!", "a!b", "!!"}, []string{"", "a"}},
		{"!!", []string{"!!", "a!!!b"}, []string{"!", "! !"}},
		{"é", []string{"É", "x é", "é×y"}, []string{"été", "ée", "xé"}},
		{"σ", []string{"ς", "α ς.", "Σ!"}, []string{"ςα", "ασ"}},
		{"日", []string{"日", "日。", "a\u3000日"}, []string{"日本", "a日"}},
		{`\*`, []string{"*", "a*b", "**"}, []string{"", "ab"}},
		{"a?c", []string{"a c", "abc", "x a-c"}, []string{"a cx", "xa c", "ac"}},
		{"\uFFFD", []string{"a\uFFFDb", "\uFFFD"}, []string{"a\xffb", "\xff"}},
	})
}

// TestAllTexts: all short patterns over all short texts, in which signs of words and of none, wrong bytes and letters of either size meet.
func TestAllTexts(t *testing.T) {
	patterns := slices.Collect(rows([]string{"*", "?", `\*`, "A", "é", " "}, 4))
	texts := slices.Collect(rows([]string{"a", "É", "*", " ", "\xff"}, 4))
	for _, pattern := range patterns {
		g := made(t, pattern)
		parts, _ := modelRead(pattern)
		for _, text := range texts {
			holdMeaning(t, g, parts, pattern, text)
		}
	}
}

// TestAllRows: longer patterns of stars, marks and one letter, over longer texts of that letter and another.
func TestAllRows(t *testing.T) {
	texts := slices.Collect(rows([]string{"a", "b"}, 5))
	for text := range rows([]string{"a", "-"}, 5) {
		texts = append(texts, text)
	}
	for pattern := range rows([]string{"*", "?", "a"}, 6) {
		g := made(t, pattern)
		parts, _ := modelRead(pattern)
		for _, text := range texts {
			holdMeaning(t, g, parts, pattern, text)
		}
	}
}

func holdMeaning(t *testing.T, g *Glob, parts []modelPart, pattern, text string) {
	t.Helper()
	whole := modelWhole(parts, text)
	if got := g.Whole(text); got != whole {
		t.Errorf("G2: %q means %q: %v, want %v", pattern, text, got, whole)
	}
	// What is meant whole is within, for a text's ends are edges: so the model need not try all pairs.
	within := whole || modelWithin(parts, text)
	if got := g.Within(text); got != within {
		t.Errorf("G3: %q within %q: %v, want %v", pattern, text, got, within)
	}
	if front := g.Front(); whole && !strings.HasPrefix(sign.Fold(text), front) {
		t.Errorf("G4: %q means %q, which does not begin with %q", pattern, text, front)
	}
	if literal, is := g.Literal(); is && whole != (sign.Fold(text) == literal) {
		t.Errorf("G4: %q means %q: %v, but its Literal is %q", pattern, text, whole, literal)
	}
}

// TestSameString: patterns of one String mean the same, and so does what String writes.
func TestSameString(t *testing.T) {
	texts := slices.Collect(rows([]string{"a", "*", " "}, 4))
	meanings := map[string]string{}
	for pattern := range rows([]string{"*", "?", `\*`, "A", "a"}, 4) {
		g := made(t, pattern)
		for _, same := range []*Glob{g, made(t, g.String())} {
			var told strings.Builder
			for _, text := range texts {
				told.WriteByte("ny"[truth(same.Whole(text))])
				told.WriteByte("ny"[truth(same.Within(text))])
			}
			if known, ok := meanings[g.String()]; ok && known != told.String() {
				t.Errorf("G5: %q, whose String is %q, means other texts than another one with it", pattern, g.String())
			}
			meanings[g.String()] = told.String()
		}
	}
}

func truth(b bool) int {
	if b {
		return 1
	}
	return 0
}

// TestSmallTexts: a text and its small letters are told alike.
func TestSmallTexts(t *testing.T) {
	for pattern := range rows([]string{"*", "?", "Ж", "ς", "!"}, 3) {
		g := made(t, pattern)
		for text := range rows([]string{"Ж", "ж", "Σ", "ς", "!", "\xff"}, 3) {
			small := sign.Fold(text)
			if g.Whole(text) != g.Whole(small) || g.Within(text) != g.Within(small) {
				t.Errorf("G2, G3: %q tells %q and %q apart", pattern, text, small)
			}
		}
	}
}

// TestPutTogether: of two patterns with a * between, and what each of them means, with any text between.
func TestPutTogether(t *testing.T) {
	halves := slices.Collect(rows([]string{"*", "?", `\\`, "a"}, 2))
	texts := slices.Collect(rows([]string{"a", `\`, "B"}, 2))
	for _, p := range halves {
		for _, q := range halves {
			both := made(t, p+"*"+q)
			for _, a := range texts {
				for _, b := range texts {
					if !made(t, p).Whole(a) || !made(t, q).Whole(b) {
						continue
					}
					for _, between := range []string{"", "x", "日\n", "a*a"} {
						if !both.Whole(a + between + b) {
							t.Errorf("G2: %q does not mean %q", p+"*"+q, a+between+b)
						}
					}
				}
			}
		}
	}
}

// atOnce gives what a call answers, if it does so soon; what tries all ways, or all pairs of places, does not.
func atOnce(t *testing.T, name string, call func() bool) bool {
	t.Helper()
	answer := make(chan bool, 1)
	go func() { answer <- call() }()
	select {
	case got := <-answer:
		return got
	case <-time.After(5 * time.Second):
		t.Fatalf("G2, G3, P1: %s is not answered at once", name)
		return false
	}
}

func TestLongTexts(t *testing.T) {
	as := strings.Repeat("a", 10000)
	words := strings.Repeat("a ", 5000)
	for _, row := range []struct {
		name, pattern, text string
		whole, within       bool
	}{
		{"many stars", strings.Repeat("*a", 50), as + "b", false, false},
		{"many stars that are meant", strings.Repeat("*a", 50), strings.Repeat("ba", 5000), true, true},
		{"stars alone", strings.Repeat("*", 100), as, true, true},
		{"stars and marks", strings.Repeat("*?", 50), as, true, true},
		{"marks alone", strings.Repeat("?", 100), as, false, false},
		{"marks and an end", strings.Repeat("?*", 49) + "b", as, false, false},
		{"a long front", strings.Repeat("a", 99) + "b", as, false, false},
		{"a long front behind a star", "*" + strings.Repeat("a", 98) + "b", as, false, false},
		{"a long front behind a star that is meant", "*" + strings.Repeat("a", 98) + "b", as + "B", true, true},
		{"many edges", strings.Repeat("*a", 49) + "b", words, false, false},
		{"many edges and an end", "a*b", words + "b", true, true},
		{"many edges and no front", "b*a", words, false, false},
		{"few edges", "a", as, false, false},
		{"signs of several bytes", strings.Repeat("*é", 33) + "x", strings.Repeat("É😀", 5000), false, false},
		{"signs of no word", strings.Repeat("*!", 50), strings.Repeat("!", 10000) + "?", false, true},
		{"a wrong byte at the end", "*", as + "\xff", false, false},
	} {
		g := made(t, row.pattern)
		if got := atOnce(t, row.name, func() bool { return g.Whole(row.text) }); got != row.whole {
			t.Errorf("G2: %s: Whole is %v, want %v", row.name, got, row.whole)
		}
		if got := atOnce(t, row.name, func() bool { return g.Within(row.text) }); got != row.within {
			t.Errorf("G3: %s: Within is %v, want %v", row.name, got, row.within)
		}
	}
}

// TestAnyBytes: whatever bytes are handed in, a call ends, and nothing wrong is meant.
func TestAnyBytes(t *testing.T) {
	source := rand.New(rand.NewSource(3))
	star := made(t, "*")
	for range 20000 {
		b := make([]byte, source.Intn(12))
		source.Read(b)
		s := string(b)
		if valid := sign.Valid(s); star.Whole(s) != valid || star.Within(s) != valid {
			t.Errorf("G2, G3: * and %q: %v, %v, want %v", s, star.Whole(s), star.Within(s), valid)
		}
		if parts, ok := modelRead(s); ok {
			holdWritten(t, s, parts)
		} else {
			refused(t, s)
		}
	}
}

// TestManyAskers: one Glob is asked for different texts by several goroutines, and answers as if each were alone.
func TestManyAskers(t *testing.T) {
	shared, other := made(t, "a*b?"), made(t, "*c")
	texts := slices.Collect(rows([]string{"a", "B", "c", " "}, 5))
	var all sync.WaitGroup
	for n := range 8 {
		own := made(t, "A*B?")
		all.Go(func() {
			for at := range texts {
				text := texts[(at*(n+1)+n*37)%len(texts)]
				other.Within(text)
				if shared.Whole(text) != own.Whole(text) || shared.Within(text) != own.Within(text) || shared.String() != "a*b?" || shared.Front() != "a" {
					t.Errorf("G1, P4: asked by several, a*b? answers otherwise of %q", text)
				}
			}
		})
	}
	all.Wait()
}
