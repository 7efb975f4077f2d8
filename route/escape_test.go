package route

import (
	"net/url"
	"strings"
	"testing"
	"unicode/utf8"
)

// escapes holds Escape and Unescape of a text against the model, and against the library.
func escapes(t testing.TB, s string) {
	t.Helper()
	escaped := Escape(s)
	if want := modelEscape(s); escaped != want {
		t.Fatalf("Y6: Escape(%q) = %q, want %q", s, escaped, want)
	}
	if lib, err := url.PathUnescape(escaped); err != nil || lib != s {
		t.Fatalf("Y6: the library reads %q as %q, %v", escaped, lib, err)
	}
	got, ok := Unescape(escaped)
	if ok != utf8.ValidString(s) || ok && got != s || !ok && got != "" {
		t.Fatalf("Y6: Unescape of Escape(%q): %q, %v", s, got, ok)
	}
	got, ok = Unescape(s)
	if want, wantOK := modelUnescape(s); got != want || ok != wantOK {
		t.Fatalf("Y6: Unescape(%q): %q, %v, want %q, %v", s, got, ok, want, wantOK)
	}
	if !ok {
		return
	}
	if lib, err := url.PathUnescape(s); err != nil || lib != got {
		t.Fatalf("Y6: the library reads %q as %q, %v; Unescape as %q", s, lib, err, got)
	}
	if len(Escape(got)) > len(s) {
		t.Fatalf("Escape of %q is longer than %q", got, s)
	}
}

func TestEscapeBytes(t *testing.T) { // Y6: each byte, each two, and each as an escape
	escapes(t, "")
	for a := range 256 {
		escapes(t, string([]byte{byte(a)}))
		for b := range 256 {
			escapes(t, string([]byte{byte(a), byte(b)}))
			escapes(t, string([]byte{'%', byte(a), byte(b)}))
			escapes(t, "%"+string([]byte{byte(a), '1', byte(b)}))
		}
	}
}

func TestEscapeRows(t *testing.T) { // Y6: all rows of six of these
	const marks = "%4aC3\xa9/"
	row := make([]byte, 6)
	for n := range 7 * 7 * 7 * 7 * 7 * 7 {
		for i := range row {
			row[i] = marks[n%7]
			n /= 7
		}
		escapes(t, string(row))
	}
}

func TestEscapeSigns(t *testing.T) { // Y6: each sign comes back
	for r := rune(0); r <= utf8.MaxRune; r++ {
		if !utf8.ValidRune(r) {
			continue
		}
		s := string(r)
		if got, ok := Unescape(Escape(s)); got != s || !ok {
			t.Fatalf("Y6: Unescape of Escape(%q): %q, %v", s, got, ok)
		}
	}
}

func TestUnescapeTellsUTF8(t *testing.T) { // Y6: the bytes that come out, whatever they came from
	for s, want := range map[string]string{
		"%c3%a9": "é", "%C3%A9": "é", "%cA%bF": "ʿ", "%e2%82%AC": "€", "%F0%9f%98%80": "😀", "%00": "\x00", "%7f": "\x7f", "%EF%BF%BD": "\ufffd", "%41%2B+": "A++", "%2541": "%41",
	} {
		if got, ok := Unescape(s); got != want || !ok {
			t.Errorf("Y6: Unescape(%q): %q, %v", s, got, ok)
		}
	}
	for _, s := range []string{"%80", "%c3", "%c3a", "%a9%c3", "%e2%82", "%ed%a0%80", "%c0%80", "%f4%90%80%80", "a%ffb", "%C3\xa9", "\xc3%a9", "é"} {
		if got, ok := Unescape(s); got != "" || ok {
			t.Errorf("Y6: Unescape(%q): %q, %v", s, got, ok)
		}
	}
}

func TestEscapeLong(t *testing.T) { // P1
	long := strings.Repeat("a/é", 1<<18)
	if got, ok := Unescape(Escape(long)); got != long || !ok {
		t.Errorf("Y6: a long text: %d bytes, %v", len(got), ok)
	}
	if got, ok := Unescape(strings.Repeat("a", 1<<20) + "%"); got != "" || ok {
		t.Errorf("Y6: a long text: %d bytes, %v", len(got), ok)
	}
}
