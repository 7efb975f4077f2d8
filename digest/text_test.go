package digest

import (
	"encoding/base64"
	"encoding/hex"
	"errors"
	"math/rand"
	"strings"
	"testing"

	"tocsin/api"
)

// reads wants bytes.
func reads(t *testing.T, s, want string) {
	t.Helper()
	if b, err := Decode(s); err != nil || string(b) != want {
		t.Errorf("H4: Decode(%q) is % x, %v; want % x", s, b, err, want)
	}
}

// fails wants a fault at a place, and nil.
func fails(t *testing.T, s string, at int) {
	t.Helper()
	b, err := Decode(s)
	fault, ok := err.(*api.Fault)
	if b != nil || !ok || fault.At != at || fault.Err != api.ErrText {
		t.Errorf("H4, P2: Decode(%q) is % x, %v; want nil, ErrText at %d", s, b, err, at)
	}
}

// held holds Decode against the plain reckoning, and what it reads against Encode.
func held(t *testing.T, s string) {
	t.Helper()
	want, at := plainDecode(s)
	if at >= 0 {
		fails(t, s, at)
		return
	}
	reads(t, s, want)
	if again := Encode([]byte(want)); again != s {
		t.Errorf("H4: %q is read, and written as %q", s, again)
	}
}

func TestExamples(t *testing.T) { // H4: the document's
	for _, c := range []struct{ bytes, text string }{{"\xfb\xff", "-_8"}, {"a", "YQ"}, {"", ""}} {
		if got := Encode([]byte(c.bytes)); got != c.text {
			t.Errorf("Encode(%q) is %q, want %q", c.bytes, got, c.text)
		}
		reads(t, c.text, c.bytes)
	}
	fails(t, "YR", 1)
	fails(t, "Y", 0)
	fails(t, "YQ=", 2)
	fails(t, "YQQQQ", 4)
	fails(t, "+Q", 0)
}

func TestNothing(t *testing.T) { // H4: of nothing: nothing
	for _, b := range [][]byte{nil, {}} {
		if Encode(b) != "" || Hex(b) != "" {
			t.Errorf("of nothing: %q, %q", Encode(b), Hex(b))
		}
	}
	if b, err := Decode(""); len(b) != 0 || err != nil {
		t.Errorf("of no text: % x, %v", b, err)
	}
}

func TestEveryLength(t *testing.T) { // H4: what is written is read as it was
	r := rand.New(rand.NewSource(1))
	for n := range 400 {
		for range 5 {
			b := chance(r, n)
			text := Encode(b)
			if text != plainEncode(b) || text != base64.RawURLEncoding.EncodeToString(b) {
				t.Fatalf("Encode(% x) is %q, want %q", b, text, plainEncode(b))
			}
			reads(t, text, string(b))
			if got := Hex(b); got != hex.EncodeToString(b) {
				t.Fatalf("Hex(% x) is %q", b, got)
			}
		}
	}
	b := chance(r, 1<<20)
	reads(t, Encode(b), string(b))
	if Encode(b) != base64.RawURLEncoding.EncodeToString(b) || Hex(b) != hex.EncodeToString(b) {
		t.Error("a million bytes are written wrong")
	}
}

func TestAllBytes(t *testing.T) { // H4: each byte alone, and each at each of the three places
	for c := range 256 {
		for _, b := range [][]byte{{byte(c)}, {0, byte(c)}, {byte(c), 0}, {0, 0, byte(c)}, {0, byte(c), 255}, {byte(c), 255, 255, 255}} {
			if got := Encode(b); got != plainEncode(b) {
				t.Errorf("Encode(% x) is %q, want %q", b, got, plainEncode(b))
			}
			reads(t, plainEncode(b), string(b))
		}
		if got, want := Hex([]byte{byte(c)}), string([]byte{"0123456789abcdef"[c/16], "0123456789abcdef"[c%16]}); got != want {
			t.Errorf("Hex of %d is %q, want %q", c, got, want)
		}
	}
}

func TestAllSigns(t *testing.T) { // H4: in their order, they are the numbers from 0 to 63
	var b []byte
	for n := 0; n < 64; n += 4 {
		three := n<<18 | (n+1)<<12 | (n+2)<<6 | (n + 3)
		b = append(b, byte(three>>16), byte(three>>8), byte(three))
	}
	if got := Encode(b); got != alphabet {
		t.Errorf("the numbers from 0 to 63 are %q, want %q", got, alphabet)
	}
	reads(t, alphabet, string(b))
}

func TestAllTextsOfTwoBytes(t *testing.T) { // H4: read as they are to be, or the right fault
	for c := range 256 {
		held(t, string([]byte{byte(c)}))
		for d := range 256 {
			held(t, string([]byte{byte(c), byte(d)}))
		}
	}
}

func TestAllTextsOfThreeSigns(t *testing.T) { // H4: signs, what stands beside them in the table of bytes, and others
	pieces := alphabet + "@[`{/:,.^+= \n\r\x00\x7f\x80\xff"
	for i := range len(pieces) {
		for k := range len(pieces) {
			for l := range len(pieces) {
				held(t, string([]byte{pieces[i], pieces[k], pieces[l]}))
			}
		}
	}
}

func TestNoSignAtEachPlace(t *testing.T) { // H4: At its place, of the first one, whatever else is wrong
	for n := 1; n <= 40; n++ {
		for _, end := range []string{"A", "_"} {
			text := strings.Repeat("w", n-1) + end
			for at := range n {
				for c := range 256 {
					if strings.IndexByte(alphabet, byte(c)) >= 0 {
						continue
					}
					wrong := []byte(text)
					wrong[at] = byte(c)
					fails(t, string(wrong), at)
				}
				wrong := text[:at] + strings.Repeat("=", n-at)
				fails(t, wrong, at)
				fails(t, text[:at]+"é"+text[at:], at)
			}
		}
	}
}

func TestOneSignTooMany(t *testing.T) { // H4: ahead of bits that belong to no byte; both at the last sign
	for n := 1; n <= 81; n += 4 {
		for _, c := range alphabet {
			fails(t, strings.Repeat("A", n-1)+string(c), n-1)
			fails(t, strings.Repeat("_", n-1)+string(c), n-1)
		}
	}
}

func TestBitsOfNoByte(t *testing.T) { // H4: four of the last sign, if two are left; two, if three are
	for n := 0; n <= 40; n += 4 {
		ahead := strings.Repeat("_", n)
		for i, c := range alphabet {
			two, three := ahead+"_"+string(c), ahead+"__"+string(c)
			if i%16 == 0 {
				reads(t, two, strings.Repeat("\xff", n/4*3)+string([]byte{0xfc | byte(i>>4)}))
			} else {
				fails(t, two, n+1)
			}
			if i%4 == 0 {
				reads(t, three, strings.Repeat("\xff", n/4*3)+string([]byte{0xff, 0xf0 | byte(i>>2)}))
			} else {
				fails(t, three, n+2)
			}
			if b, err := Decode(ahead + "___" + string(c)); err != nil || len(b) != n/4*3+3 {
				t.Errorf("H4: a whole four is no text: % x, %v", b, err)
			}
		}
	}
}

func TestTextsByChance(t *testing.T) { // H4: several faults at once, too
	r := rand.New(rand.NewSource(2))
	pieces := []string{"A", "Q", "g", "w", "_", "-", "8", "AAAA", "__-_", "=", "+", "/", " ", "\x00", "é", "\xc3"}
	for range 200000 {
		var s strings.Builder
		most := len(pieces) - r.Intn(2)*9
		for range r.Intn(9) {
			s.WriteString(pieces[r.Intn(most)])
		}
		held(t, s.String())
	}
}

func TestFaultIsFound(t *testing.T) { // H4, P5: by errors.Is and errors.As
	_, err := Decode("YQ=")
	var fault *api.Fault
	var errno api.Errno
	if !errors.Is(err, api.ErrText) || !errors.As(err, &fault) || fault.At != 2 || !errors.As(err, &errno) || errno != 160 {
		t.Errorf("Decode of %q: %v", "YQ=", err)
	}
	other := error(fault)
	if _, again := Decode("YQ="); again == other {
		t.Error("P3: two faults are one")
	}
}

func TestTextsLeaveTheirBytes(t *testing.T) { // P3: nothing is written into, none of it kept, and answers are the caller's
	r := rand.New(rand.NewSource(3))
	for n := range 40 {
		room := chance(r, n+20)
		was := string(room)
		text, signs := Encode(room[:n]), Hex(room[:n])
		if string(room) != was {
			t.Fatalf("%d bytes are written into, or what stands behind them", n)
		}
		clear(room)
		if text != plainEncode([]byte(was[:n])) || signs != hex.EncodeToString([]byte(was[:n])) {
			t.Fatalf("%d bytes are kept", n)
		}
		one, _ := Decode(text)
		two, _ := Decode(text)
		one = one[:cap(one)]
		for i := range one {
			one[i]++
		}
		if string(two) != was[:n] {
			t.Fatalf("the bytes of two answers are shared")
		}
		reads(t, text, was[:n])
	}
}

func TestOneAfterAnother(t *testing.T) { // P4: an answer does not hang on those ahead of it
	fails(t, "__=", 2)
	reads(t, "YQ", "a")
	fails(t, "Y", 0)
	reads(t, "", "")
	if Encode([]byte("a")) != "YQ" || Hex([]byte("a")) != "61" || Encode([]byte{0}) != "AA" || Hex([]byte{0, 10}) != "000a" {
		t.Error("Encode and Hex of other bytes")
	}
}
