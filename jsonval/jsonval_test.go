package jsonval_test

import (
	"bytes"
	"encoding/json"
	"errors"
	"math/rand"
	"slices"
	"strconv"
	"strings"
	"sync"
	"testing"
	"unicode/utf8"

	"tocsin/api"
	"tocsin/jsonval"
)

// place tells where and why an error came; P5: it is a fault, which wraps its number.
func place(t *testing.T, err error) spot {
	t.Helper()
	if err == nil {
		return spot{}
	}
	var f *api.Fault
	var n api.Errno
	if !errors.As(err, &f) || f == nil || !errors.As(err, &n) || n != f.Err || !errors.Is(err, f.Err) || n == api.OK {
		t.Fatalf("P5: %v is no fault that wraps a number", err)
	}
	return spot{f.At, f.Err}
}

// holdToModel parses s, and holds what comes out against the model.
func holdToModel(t *testing.T, s string) *jsonval.Value {
	t.Helper()
	v, err := jsonval.Parse([]byte(s))
	got, want := place(t, err), model(s)
	if got != want {
		t.Fatalf("J1: Parse(%q): %v, want %v", s, got, want)
	}
	if (v == nil) != (err != nil) {
		t.Fatalf("J1, P2: Parse(%q) = %v, %v", s, v, err)
	}
	return v
}

// rows calls f with all rows of up to n of the pieces.
func rows(pieces []string, n int, f func(string)) {
	var grow func(s string, n int)
	grow = func(s string, n int) {
		f(s)
		if n == 0 {
			return
		}
		for _, p := range pieces {
			grow(s+p, n-1)
		}
	}
	grow("", n)
}

func parse(t *testing.T, s string) *jsonval.Value {
	t.Helper()
	v, err := jsonval.Parse([]byte(s))
	if err != nil {
		t.Fatalf("J1: Parse(%q): %v", s, err)
	}
	return v
}

func TestParseReads(t *testing.T) {
	for s, want := range map[string]string{
		"null": "null", "true": "true", "false": "false", " \t\r\n0 \t\r\n": "0", "-0": "0", "-12": "-12",
		"9007199254740991": "9007199254740991", "-9007199254740991": "-9007199254740991",
		`""`: `""`, `"\/\u002f/"`: `"///"`, `"\u00e9\u00E9é"`: `"ééé"`, `"\ud800\udc00\udbff\udfff"`: "\"\U00010000\U0010ffff\"",
		`"\ud7ff\ue000\uffff"`: "\"\ud7ff\ue000\uffff\"", `"\u0000\u001f\u0020\u007f"`: "\"\\u0000\\u001f \x7f\"",
		`"\"\\\b\f\n\r\t"`: `"\"\\\b\f\n\r\t"`, `"\u0022\u005c\u0008\u000c\u000a\u000d\u0009"`: `"\"\\\b\f\n\r\t"`,
		"[]": "[]", "[ \n]": "[]", " [ 1 , \"a\" , null , [ ] ] ": `[1,"a",null,[]]`,
		"{}": "{}", "{\t}": "{}", ` { "b" : 1 , "a" : { "" : [] } } `: `{"a":{"":[]},"b":1}`,
		`{"b":[1, -0],"a":"\u00e9"}`:                                  `{"a":"é","b":[1,0]}`,
		`{"\uffff":1,"\ud800\udc00":2,"a":3,"aa":4,"a\u0000":5,"":6}`: "{\"\":6,\"a\":3,\"a\\u0000\":5,\"aa\":4,\"\uffff\":1,\"\U00010000\":2}",
	} {
		if v := holdToModel(t, s); v.Print() != want {
			t.Errorf("J1, J2: Parse(%q) prints %s, want %s", s, v.Print(), want)
		}
	}
}

func TestParseRefuses(t *testing.T) {
	for s, want := range map[string]spot{
		"": {0, api.ErrSyntax}, " \n": {2, api.ErrSyntax}, "[1,]": {3, api.ErrSyntax}, "[1.5]": {1, api.ErrNumber}, "[01]": {1, api.ErrSyntax},
		"nullx": {0, api.ErrSyntax}, "NULL": {0, api.ErrSyntax}, "null0": {4, api.ErrSyntax}, `{"a":1,"\u0061":x}`: {7, api.ErrTwice}, `"\ud83dx"`: {1, api.ErrSyntax},
		"[[[[[[[[[[[": {10, api.ErrDepth}, `"a\`: {3, api.ErrSyntax}, "1 2": {2, api.ErrSyntax}, "-": {0, api.ErrSyntax}, "1e": {0, api.ErrSyntax},
		`"\ud83d\u00`: {11, api.ErrSyntax}, `"\ude00"`: {1, api.ErrSyntax}, `"\ude0`: {6, api.ErrSyntax}, `"\ude00`: {1, api.ErrSyntax},
		`"\ud83d\ude0`: {12, api.ErrSyntax}, `"\ud83d\ud83`: {12, api.ErrSyntax}, `"\ud83d\ud83d`: {1, api.ErrSyntax}, `"\ud83d\x`: {1, api.ErrSyntax}, `"\ud83d\ug`: {1, api.ErrSyntax},
		`"\u`: {3, api.ErrSyntax}, `"\ug`: {1, api.ErrSyntax}, `"\U0041"`: {1, api.ErrSyntax}, `"\u00"`: {1, api.ErrSyntax}, "\"\\\xff": {1, api.ErrSyntax}, "\"\\\x00": {1, api.ErrSyntax},
		"\"\xc3": {2, api.ErrSyntax}, "\"\xc3\"": {1, api.ErrUTF8}, "\"\xe0\x80": {1, api.ErrUTF8}, "\"\xf0\x90\x80": {4, api.ErrSyntax}, "\"\xf5": {1, api.ErrUTF8}, "\"\xed\xa0": {1, api.ErrUTF8},
		"\xff": {0, api.ErrSyntax}, "1\xff": {1, api.ErrSyntax}, "[é]": {1, api.ErrSyntax}, "\"\x00\xff\"": {1, api.ErrSyntax}, "\"\xff\x00\"": {1, api.ErrUTF8},
		`{"a"`: {4, api.ErrSyntax}, `{"a":`: {5, api.ErrSyntax}, `{"a":1`: {6, api.ErrSyntax}, `{"a":1,`: {7, api.ErrSyntax}, `{,}`: {1, api.ErrSyntax}, `{"a",1}`: {4, api.ErrSyntax}, `{"a":1]`: {6, api.ErrSyntax}, `{a:1}`: {1, api.ErrSyntax}, `{null:1}`: {1, api.ErrSyntax}, `["a":1]`: {4, api.ErrSyntax}, `[1;2]`: {2, api.ErrSyntax},
		`{"a":1,"a`: {9, api.ErrSyntax}, `{"a":1,"a"`: {7, api.ErrTwice}, "'a'": {0, api.ErrSyntax}, "// x": {0, api.ErrSyntax}, "\f1": {0, api.ErrSyntax}, "\u00a01": {0, api.ErrSyntax},
	} {
		holdToModel(t, s)
		v, err := jsonval.Parse([]byte(s))
		if got := place(t, err); v != nil || got != want {
			t.Errorf("J1, P2: Parse(%q): %v, %v, want %v", s, v, got, want)
		}
	}
}

func TestParseLimits(t *testing.T) {
	ones, members := "[1"+strings.Repeat(",1", 63), `{"0":0`
	for i := range 63 {
		members += `,"` + strconv.Itoa(i+1) + `":0`
	}
	n := len(members)
	for s, want := range map[string]spot{
		strings.Repeat(" ", 4095) + "1": {}, strings.Repeat(" ", 4096) + "1": {4096, api.ErrSize}, strings.Repeat(" ", 4096): {4096, api.ErrSyntax}, strings.Repeat("x", 4097): {4096, api.ErrSize},
		`"` + strings.Repeat("a", 4094) + `"`: {}, `"` + strings.Repeat("a", 4095): {4096, api.ErrSyntax}, `"` + strings.Repeat("a", 4095) + `"`: {4096, api.ErrSize},
		"[[[[[[[[[[]]]]]]]]]]": {}, "[[[[[[[[[[[]]]]]]]]]]]": {10, api.ErrDepth}, `[[[[[[[[[{"a":[`: {14, api.ErrDepth}, "[[[[[[[[[[1,{": {12, api.ErrDepth},
		"[[],[],[],[],[],[],[],[],[],[],[],[[[[[[[[[]]]]]]]]]]": {}, "[[[[[[[[[[1],{},[{": {17, api.ErrDepth},
		ones + "]": {}, ones + " \n]": {}, ones + ",1]": {129, api.ErrSize}, ones + ",]": {129, api.ErrSize}, ones + ",\t x": {131, api.ErrSize}, ones + ",\xff": {129, api.ErrSize}, ones + ",": {129, api.ErrSyntax}, ones + ",  ": {131, api.ErrSyntax}, ones + "}": {128, api.ErrSyntax},
		"[[[[[[[[[" + ones + ",[": {138, api.ErrSize}, "[" + ones + "]," + ones + "]]": {},
		members + "}": {}, members + `,"x":0}`: {n + 1, api.ErrSize}, members + `,"0":0}`: {n + 1, api.ErrSize}, members + ",}": {n + 1, api.ErrSize}, members + ", 1": {n + 2, api.ErrSize}, members + ",": {n + 1, api.ErrSyntax}, members + ` "`: {n + 1, api.ErrSyntax},
		"9007199254740992": {0, api.ErrNumber}, "-9007199254740992": {0, api.ErrNumber}, "9223372036854775807": {0, api.ErrNumber}, "-9223372036854775808": {0, api.ErrNumber}, "[18446744073709551616]": {1, api.ErrNumber}, strings.Repeat("9", 4096): {0, api.ErrNumber}, "0" + strings.Repeat("9", 4000): {0, api.ErrSyntax}, "10000000000000000": {0, api.ErrNumber},
		"1.0": {0, api.ErrNumber}, "1e3": {0, api.ErrNumber}, "-0.0": {0, api.ErrNumber}, "0e0": {0, api.ErrNumber}, "1e400": {0, api.ErrNumber}, "1.0.": {0, api.ErrSyntax}, "--1": {0, api.ErrSyntax}, "-.1": {0, api.ErrSyntax},
	} {
		holdToModel(t, s)
		_, err := jsonval.Parse([]byte(s))
		if got := place(t, err); got != want {
			t.Errorf("J1: Parse of %d bytes, %.40q ..: %v, want %v", len(s), s, got, want)
		}
	}
}

func TestAllShortRows(t *testing.T) {
	rows([]string{"[", "]", "{", "}", ",", ":", " ", `"a"`, `"b"`, "1", "true"}, 5, func(s string) { holdToModel(t, s) })
	rows([]string{"[", "]", "{", "}", ",", ":", `"a"`}, 6, func(s string) { holdToModel(t, s) })
	rows([]string{`"a":1`, `"b":[`, `"\u0061":`, `{`, `}`, `,`, `]`, "x"}, 5, func(s string) { holdToModel(t, "{"+s) })
}

func TestAllShortNumbers(t *testing.T) {
	rows([]string{"0", "1", "9", "-", "+", ".", "e", "E", " "}, 5, func(s string) {
		v := holdToModel(t, s)
		n, err := strconv.ParseInt(strings.TrimSpace(s), 10, 64)
		if v != nil && (err != nil || v.Number() != n || v.Kind() != jsonval.Int) {
			t.Fatalf("J1, J3: Parse(%q) = %s", s, v.Print())
		}
	})
	rows([]string{"900719925474099", "0", "1", "2", "-"}, 3, func(s string) { holdToModel(t, s) })
}

func TestAllShortTexts(t *testing.T) {
	inner := []string{`"`, `\`, "u", "n", "d83d", "DE00", "00", "e", "g", "\x00", "\x1f", "\x7f"}
	signs := []string{`"`, "\uFFFD", "\xc2", "\xe0", "\xed", "\xf0", "\xf4", "\x80", "\x90", "\xa0", "\xbf", "\xc0", "\xff"}
	for _, pieces := range [][]string{inner, signs} {
		rows(pieces, 5, func(s string) {
			v := holdToModel(t, `"`+s)
			if v == nil {
				return
			}
			_, want, _ := modelString(`"`+s, 0)
			if v.Kind() != jsonval.Text || v.Text() != want {
				t.Fatalf("J1, J3: Parse(%q) has the text %q, want %q", `"`+s, v.Text(), want)
			}
		})
	}
}

func TestAllEscapes(t *testing.T) {
	for n := range 0x10000 {
		for _, form := range []string{strconv.FormatInt(int64(n)+0x10000, 16)[1:], strings.ToUpper(strconv.FormatInt(int64(n)+0x10000, 16)[1:])} {
			holdToModel(t, `"\u`+form+`"`)
			holdToModel(t, `"\uD812\u`+form+`"`)
			holdToModel(t, `"\u`+form+`\uDFED"`)
		}
	}
	for n := range 256 {
		holdToModel(t, `"\`+string([]byte{byte(n)})+`"`)
		holdToModel(t, `"\`+string([]byte{byte(n)}))
		holdToModel(t, string([]byte{byte(n)}))
		holdToModel(t, "["+string([]byte{byte(n)}))
		holdToModel(t, "{"+string([]byte{byte(n)}))
		holdToModel(t, "[1"+string([]byte{byte(n)}))
	}
}

// someValue writes a value by chance, with blanks and escapes.
func someValue(r *rand.Rand, deep int) string {
	blank := func() string { return []string{"", "", " ", "\n\t"}[r.Intn(4)] }
	text := func() string {
		s := ""
		for range r.Intn(4) {
			s += []string{"a", "b", "é", "😀", `\u00e9`, `\ud83d\ude00`, `\n`, `\/`, `\u0001`, "\x7f"}[r.Intn(10)]
		}
		return `"` + s + `"`
	}
	kind := r.Intn(7)
	if deep == 0 {
		kind = r.Intn(5)
	}
	switch kind {
	case 0, 1, 2:
		return []string{"null", "true", "false"}[kind]
	case 3:
		return strconv.FormatInt((r.Int63n(2*api.MaxInt+1)-api.MaxInt)>>r.Intn(53), 10)
	case 4:
		return text()
	}
	var parts []string
	for i := range r.Intn(5) {
		part := blank() + someValue(r, deep-1) + blank()
		if kind == 6 {
			part = blank() + text()[:1] + strconv.Itoa(i) + text()[1:] + blank() + ":" + part
		}
		parts = append(parts, part)
	}
	if kind == 5 {
		return "[" + strings.Join(parts, ",") + blank() + "]"
	}
	return "{" + strings.Join(parts, ",") + blank() + "}"
}

// sameAsLibrary holds a value against what the library reads.
func sameAsLibrary(v *jsonval.Value, x any) bool {
	switch w := x.(type) {
	case nil:
		return v != nil && v.Kind() == jsonval.Null
	case bool:
		return v.Kind() == jsonval.Bool && v.True() == w
	case json.Number:
		n, err := w.Int64()
		return err == nil && v.Kind() == jsonval.Int && v.Number() == n
	case string:
		return v.Kind() == jsonval.Text && v.Text() == w
	case []any:
		for i := range w {
			if !sameAsLibrary(v.Item(i), w[i]) {
				return false
			}
		}
		return v.Kind() == jsonval.List && v.Len() == len(w)
	case map[string]any:
		for i := range v.Len() {
			if y, ok := w[v.Key(i)]; !ok || !sameAsLibrary(v.Item(i), y) || v.Get(v.Key(i)) != v.Item(i) || i > 0 && v.Key(i-1) >= v.Key(i) {
				return false
			}
		}
		return v.Kind() == jsonval.Object && v.Len() == len(w)
	}
	return false
}

func TestLongValues(t *testing.T) {
	r := rand.New(rand.NewSource(2))
	for range 20000 {
		s := someValue(r, 4)
		if len(s) > api.MaxJSON {
			continue
		}
		v := holdToModel(t, s)
		d := json.NewDecoder(strings.NewReader(s))
		d.UseNumber()
		var x any
		if err := d.Decode(&x); err != nil || !sameAsLibrary(v, x) {
			t.Fatalf("J1, J3: Parse(%q) = %s, %v", s, v.Print(), err)
		}
		p := v.Print()
		if len(p) > len(s) {
			t.Fatalf("J2: %q is printed longer: %q", s, p)
		}
		if again := parse(t, p); !jsonval.Same(v, again) || again.Print() != p {
			t.Fatalf("J2: %q, printed and read, is %q", p, again.Print())
		}
		cut := r.Intn(len(s))
		holdToModel(t, s[:cut])
		holdToModel(t, s[:cut]+string([]byte{byte(r.Intn(256))})+s[cut+1:])
		holdToModel(t, s[:cut]+s[cut+1:])
	}
}

func TestPrintSigns(t *testing.T) {
	short := map[rune]string{'"': `\"`, '\\': `\\`, 8: `\b`, 12: `\f`, 10: `\n`, 13: `\r`, 9: `\t`}
	for r := range rune(utf8.MaxRune + 1) {
		if !utf8.ValidRune(r) {
			continue
		}
		want := string(r)
		if s, ok := short[r]; ok {
			want = s
		} else if r < 32 {
			want = `\u00` + strconv.FormatInt(int64(r)+256, 16)[1:]
		}
		if got := jsonval.OfText(string(r)).Print(); got != `"`+want+`"` {
			t.Fatalf("J2: U+%04X is printed as %s", r, got)
		}
	}
	v := jsonval.OfMap(map[string]*jsonval.Value{"\n\"": jsonval.OfInt(-1), "/": jsonval.OfList(jsonval.OfBool(false), nil)})
	if got := v.Print(); got != `{"\n\"":-1,"/":[false,null]}` {
		t.Errorf("J2: keys are printed as %s", got)
	}
}

func TestParts(t *testing.T) {
	zero := &jsonval.Value{}
	for _, v := range []*jsonval.Value{nil, zero, parse(t, "null"), parse(t, "true"), parse(t, "-5"), parse(t, `"x"`), parse(t, `[1,null]`), parse(t, `{"":1,"a":null}`)} {
		k := v.Kind()
		if v.True() != (k == jsonval.Bool) || (v.Number() != 0) != (k == jsonval.Int) || (v.Text() != "") != (k == jsonval.Text) || (v.Len() != 0) != (k == jsonval.List || k == jsonval.Object) {
			t.Errorf("J3: %s: %v %d %q %d", v.Print(), v.True(), v.Number(), v.Text(), v.Len())
		}
		for _, i := range []int{-1 << 63, -1, 0, 1, 2, 1<<63 - 1} {
			in := i >= 0 && i < v.Len()
			if (v.Item(i) != nil) != in || v.Key(i) != "" && (k != jsonval.Object || !in) {
				t.Errorf("J3: %s: Item(%d) = %v, Key = %q", v.Print(), i, v.Item(i), v.Key(i))
			}
		}
		for _, key := range []string{"", "a", "b", "\xff"} {
			if (v.Get(key) != nil) != (k == jsonval.Object && (key == "" || key == "a")) {
				t.Errorf("J3: %s: Get(%q) = %v", v.Print(), key, v.Get(key))
			}
		}
	}
	if parse(t, "false").True() || jsonval.OfBool(false).True() || parse(t, "false").Kind() != jsonval.Bool {
		t.Error("J3: false")
	}
	v := parse(t, `{"b":[1, -0],"a":"\u00e9"}`)
	if v.Key(0) != "a" || v.Key(1) != "b" || v.Item(1).Len() != 2 || v.Item(2) != nil || v.Item(0).Text() != "é" || v.Get("b").Item(0).Number() != 1 {
		t.Errorf("J3: %s", v.Print())
	}
	if w := parse(t, "[null]").Item(0); w == nil || w.Kind() != jsonval.Null {
		t.Error("J3: a null within is nil")
	}
	if zero.Print() != "null" || !jsonval.Same(zero, nil) || !jsonval.Same(nil, parse(t, "null")) {
		t.Error("J3: a zero value is not null")
	}
}

func TestMakeScalars(t *testing.T) {
	for n, want := range map[int64]int64{0: 0, 1: 1, -1: -1, api.MaxInt: api.MaxInt, -api.MaxInt: -api.MaxInt, api.MaxInt + 1: api.MaxInt, -api.MaxInt - 1: -api.MaxInt, 1<<63 - 1: api.MaxInt, -1 << 63: -api.MaxInt} {
		if v := jsonval.OfInt(n); v.Kind() != jsonval.Int || v.Number() != want || v.Print() != strconv.FormatInt(want, 10) {
			t.Errorf("J4: OfInt(%d) = %s", n, v.Print())
		}
	}
	for _, b := range []bool{true, false} {
		if v := jsonval.OfBool(b); v.Kind() != jsonval.Bool || v.True() != b || v.Print() != strconv.FormatBool(b) {
			t.Errorf("J4: OfBool(%v) = %s", b, v.Print())
		}
	}
	rows([]string{"a", "\xef\xbf\xbd", "\xc2", "\xe0", "\xed", "\xf0", "\xf4", "\x80", "\x90", "\xa0", "\xff"}, 5, func(s string) {
		want := ""
		for rest := s; rest != ""; {
			size, _ := modelSign(rest)
			if size == 0 {
				want, rest = want+"\uFFFD", rest[1:]
				continue
			}
			want, rest = want+rest[:size], rest[size:]
		}
		if v := jsonval.OfText(s); v.Kind() != jsonval.Text || v.Text() != want {
			t.Fatalf("J4: OfText(%q) = %q, want %q", s, v.Text(), want)
		}
	})
}

func TestMakeLists(t *testing.T) {
	if v := jsonval.OfList(); v == nil || v.Kind() != jsonval.List || v.Len() != 0 || v.Print() != "[]" {
		t.Errorf("J4: OfList() = %s", v.Print())
	}
	l := make([]*jsonval.Value, 3, 10)
	l[0], l[2] = jsonval.OfInt(1), jsonval.OfText("x")
	v := jsonval.OfList(l...)
	for i, item := range l[:10] {
		if i != 0 && i != 2 && item != nil {
			t.Error("P3: OfList has written into what it was given")
		}
	}
	l[0], l[1], l[2] = nil, jsonval.OfInt(7), nil
	if v.Print() != `[1,null,"x"]` || v.Item(1) == nil {
		t.Errorf("J4, P3: OfList = %s", v.Print())
	}
	many := make([]*jsonval.Value, 100000)
	if v := jsonval.OfList(many...); v.Len() != len(many) || len(v.Print()) != 5*len(many)+1 {
		t.Errorf("J4: a long list has %d items", v.Len())
	}
}

func TestMakeObjects(t *testing.T) {
	if v := jsonval.OfMap(nil); v == nil || v.Kind() != jsonval.Object || v.Len() != 0 || v.Print() != "{}" {
		t.Errorf("J4: OfMap(nil) = %s", v.Print())
	}
	m := map[string]*jsonval.Value{"b": jsonval.OfInt(2), "a": nil, "\U00010000": nil, "\uffff": nil, "": nil}
	v := jsonval.OfMap(m)
	if len(m) != 5 || m["a"] != nil {
		t.Error("P3: OfMap has written into what it was given")
	}
	m["b"], m["c"] = nil, nil
	delete(m, "a")
	if v.Print() != "{\"\":null,\"a\":null,\"b\":2,\"\uffff\":null,\"\U00010000\":null}" || v.Get("a") == nil || v.Get("b").Number() != 2 {
		t.Errorf("J4, P3: OfMap = %s", v.Print())
	}
	raw := []string{"\x80", "\uFFFD", "\xff", "\xfe", "\xc3", "\xed"} // all become U+FFFD
	order := slices.Sorted(slices.Values(raw))
	for set := 1; set < 1<<len(order); set++ {
		m, last := map[string]*jsonval.Value{"A": nil, "\U0010ffff": nil}, 0
		for i, key := range order {
			if set>>i&1 == 1 {
				m[key], last = jsonval.OfInt(int64(i)), i
			}
		}
		if v := jsonval.OfMap(m); v.Print() != "{\"A\":null,\"\uFFFD\":"+strconv.Itoa(last)+",\"\U0010ffff\":null}" || v.Get("\xff") != nil {
			t.Fatalf("J4: OfMap of the keys of set %b = %s", set, v.Print())
		}
	}
	two := jsonval.OfMap(map[string]*jsonval.Value{"\xff": jsonval.OfInt(1), "\uFFFDa": jsonval.OfInt(2), "\xffa": jsonval.OfInt(3)})
	if two.Print() != "{\"\uFFFD\":1,\"\uFFFDa\":3}" {
		t.Errorf("J4: OfMap = %s", two.Print())
	}
}

func TestMakeDeep(t *testing.T) {
	v, w := jsonval.OfInt(1), jsonval.OfInt(1)
	for range 1 << 16 {
		v, w = jsonval.OfList(v), jsonval.OfList(w)
	}
	if len(v.Print()) != 1<<17+1 || !jsonval.Same(v, w) || jsonval.Same(v, w.Item(0)) {
		t.Error("J4, J5: values of 65536 lists within one another")
	}
}

func TestSame(t *testing.T) {
	texts := []string{"null", "true", "false", "0", "1", "-1", `""`, `"0"`, `"a"`, "[]", "{}", "[null]", "[0]", "[0,0]", "[0,1]", "[1,0]", "[[]]", "[{}]", `{"a":0}`, `{"b":0}`, `{"a":1}`, `{"a":0,"b":1}`, `{"b":1,"a":0}`, `{"a":0,"c":1}`, `{"":0}`, `{"a":{"a":0}}`, `{"a":[0]}`, `[{"a":0}]`, `[{"b":0}]`}
	for _, a := range texts {
		for _, b := range texts {
			v, w := parse(t, a), parse(t, b)
			if jsonval.Same(v, w) != (v.Print() == w.Print()) {
				t.Errorf("J5: Same(%s, %s) = %v", a, b, jsonval.Same(v, w))
			}
		}
		if jsonval.Same(nil, parse(t, a)) != (a == "null") || jsonval.Same(parse(t, a), nil) != (a == "null") {
			t.Errorf("J5: Same of nil and %s", a)
		}
	}
	if !jsonval.Same(nil, nil) || !jsonval.Same(jsonval.OfList(nil), parse(t, "[null]")) {
		t.Error("J5: Same of nil")
	}
}

func TestSameOfSharedParts(t *testing.T) {
	v, w, x := jsonval.OfInt(1), jsonval.OfInt(1), jsonval.OfInt(2)
	for range 200 {
		v, w, x = jsonval.OfList(v, v), jsonval.OfMap(map[string]*jsonval.Value{"a": w, "b": w}), jsonval.OfList(x, x)
	}
	again := jsonval.OfInt(1)
	for range 200 {
		again = jsonval.OfList(again, again)
	}
	if !jsonval.Same(v, again) || jsonval.Same(v, x) || jsonval.Same(v, w) {
		t.Error("J5, P1: values in which one value stands in many places")
	}
}

func TestPath(t *testing.T) {
	for s, want := range map[string][]string{"": {""}, "a": {"a"}, "a.b": {"a", "b"}, ".": {"", ""}, "a..b": {"a", "", "b"}, `content.m\.x`: {"content", "m.x"}, `\\.\.`: {`\`, "."}, `\\\\`: {`\\`}, "é.😀": {"é", "😀"}, "\x00.\uFFFD": {"\x00", "\uFFFD"}} {
		if got, err := jsonval.Path(s); err != nil || !slices.Equal(got, want) {
			t.Errorf("J6: Path(%q) = %q, %v, want %q", s, got, err, want)
		}
	}
	for s, want := range map[string]spot{
		`a\b`: {1, api.ErrPath}, `\`: {0, api.ErrPath}, `\\\`: {2, api.ErrPath}, "a.\xff": {2, api.ErrUTF8}, "\xff\\": {0, api.ErrUTF8}, "\\\xff": {0, api.ErrPath}, "é\xe2\x82": {2, api.ErrUTF8},
		strings.Repeat("a", 201): {200, api.ErrSize}, strings.Repeat("\xff", 201): {200, api.ErrSize}, strings.Repeat("\\", 201): {200, api.ErrSize}, strings.Repeat("a", 199) + `\`: {199, api.ErrPath}, strings.Repeat("a", 199) + `\.`: {200, api.ErrSize}, strings.Repeat("a", 199) + "\xc3": {199, api.ErrUTF8},
	} {
		if got, err := jsonval.Path(s); got != nil || place(t, err) != want {
			t.Errorf("J6, P2: Path(%q) = %q, %v, want %v", s, got, err, want)
		}
	}
	if l, err := jsonval.Path(strings.Repeat(".", 200)); err != nil || len(l) != 201 {
		t.Errorf("J6: 200 dots: %d parts, %v", len(l), err)
	}
}

// modelPath cuts at each piece of a path in turn.
func modelPath(s string) ([]string, spot) {
	parts := []string{""}
	for at := 0; at < len(s); {
		last := &parts[len(parts)-1]
		size, _ := modelSign(s[at:])
		switch {
		case size == 0:
			return nil, spot{at, api.ErrUTF8}
		case strings.HasPrefix(s[at:], `\.`), strings.HasPrefix(s[at:], `\\`):
			*last += s[at+1 : at+2]
			at++
		case s[at] == '\\':
			return nil, spot{at, api.ErrPath}
		case s[at] == '.':
			parts = append(parts, "")
		default:
			*last += s[at : at+size]
		}
		at += size
	}
	return parts, spot{}
}

func TestAllShortPaths(t *testing.T) {
	rows([]string{".", `\`, "a", "é", "\xe2", "\x82", "\xac", "\x00"}, 6, func(s string) {
		want, wrong := modelPath(s)
		got, err := jsonval.Path(s)
		if place(t, err) != wrong || !slices.Equal(got, want) {
			t.Fatalf("J6: Path(%q) = %q, %v, want %q, %v", s, got, err, want, wrong)
		}
	})
}

func TestLook(t *testing.T) {
	v := parse(t, `{"a":{"b":null,"c":[{"d":1}]},"":{"":2}}`)
	for path, want := range map[string]string{"a.b": "null", "a.c": `[{"d":1}]`, ".": "2", "": `{"":2}`, "a": `{"b":null,"c":[{"d":1}]}`} {
		parts, _ := jsonval.Path(path)
		if got := v.Look(parts); got == nil || got.Print() != want {
			t.Errorf("J6: Look(%q) = %s, want %s", parts, got.Print(), want)
		}
	}
	for _, path := range []string{"x", "a.x", "a.b.c", "a.c.0", "a.c.d", "..", "A", "x.y.z"} {
		parts, _ := jsonval.Path(path)
		if got := v.Look(parts); got != nil {
			t.Errorf("J6: Look(%q) = %s, want nil", parts, got.Print())
		}
	}
	if v.Look(nil) != v || v.Look([]string{}) != v || (*jsonval.Value)(nil).Look(nil) != nil || (*jsonval.Value)(nil).Look([]string{""}) != nil {
		t.Error("J6: Look of no parts, and in nil")
	}
}

func TestNothingIsKeptNorWritten(t *testing.T) {
	room := []byte(`{"a":["bcd",{"e":"f"}]}     `)
	b := room[:len(room)-5]
	before := slices.Clone(room)
	v := parse(t, string(b))
	w, err := jsonval.Parse(b)
	if err != nil || !bytes.Equal(room, before) {
		t.Fatalf("P3: Parse has written into what it was given: %q", room)
	}
	for i := range room {
		room[i] = 'x'
	}
	if !jsonval.Same(v, w) || w.Print() != v.Print() {
		t.Errorf("P3: the value has changed with the bytes: %s", w.Print())
	}
	one, _ := jsonval.Path("a.b")
	two, _ := jsonval.Path("a.b")
	for i := range one[:cap(one)] {
		one[:cap(one)][i] = "x"
	}
	if !slices.Equal(two, []string{"a", "b"}) {
		t.Error("P3: two paths share memory")
	}
	path := []string{"a", "b", "c"}
	v.Look(path[:1])
	if !slices.Equal(path, []string{"a", "b", "c"}) {
		t.Error("P3: Look has written into its path")
	}
}

func TestFaultsAreNew(t *testing.T) {
	_, one := jsonval.Parse([]byte("x"))
	var f *api.Fault
	if !errors.As(one, &f) {
		t.Fatal("P5: no fault")
	}
	f.At, f.Err = 99, api.ErrTwice
	_, two := jsonval.Parse([]byte("x"))
	if place(t, two) != (spot{0, api.ErrSyntax}) {
		t.Error("P3, P4: a fault that was written into comes again")
	}
}

func TestManyAtOnce(t *testing.T) {
	v := parse(t, `{"a":[1,{"b":"c"}],"d":null}`)
	want := v.Print()
	var all sync.WaitGroup
	for range 8 {
		all.Go(func() {
			for range 200 {
				w, err := jsonval.Parse([]byte(want))
				_, wrong := jsonval.Parse([]byte("[1,"))
				if err != nil || wrong == nil || w.Print() != want || !jsonval.Same(v, w) || v.Look([]string{"a"}).Item(1).Get("b").Text() != "c" {
					t.Error("P4: calls have to do with one another")
				}
			}
		})
	}
	all.Wait()
}
