package digest

import (
	"bytes"
	"crypto/hmac"
	"crypto/sha256"
	"math/rand"
	"strings"
	"testing"
	"time"
)

func published(key, b []byte) (sum [Size]byte) {
	h := hmac.New(sha256.New, key)
	h.Write(b)
	return [Size]byte(h.Sum(nil))
}

func TestPublishedMacs(t *testing.T) { // H2: the document's example, and those of RFC 4231
	count := make([]byte, 25)
	for i := range count {
		count[i] = byte(i + 1)
	}
	long := strings.Repeat("\xaa", 131)
	for _, c := range []struct{ key, text, want string }{
		{strings.Repeat("\x0b", 20), "Hi There", "b0344c61d8db38535ca8afceaf0bf12b881dc200c9833da726e9376c2e32cff7"},
		{"Jefe", "what do ya want for nothing?", "5bdcc146bf60754e6a042426089575c75a003f089d2739839dec58b964ec3843"},
		{strings.Repeat("\xaa", 20), strings.Repeat("\xdd", 50), "773ea91e36800e46854db8ebd09181a72959098b3ef8c122d9635514ced565fe"},
		{string(count), strings.Repeat("\xcd", 50), "82558a389a443c0ea4cc819899f2083a85f0faa3e578f8077a2e3ff46729665b"},
		{long, "Test Using Larger Than Block-Size Key - Hash Key First", "60e431591ee0b67f0d8a26aacbf5b77f8e0bc6213728c5140546040f0ee37f54"},
		{long, "This is a test using a larger than block-size key and a larger than block-size data. The key needs to be hashed before being used by the HMAC algorithm.", "9b09ffa71b942fcb27635fbcd5b0e944bfdc63644f0713938a7f51535c3a35e2"},
		{"", "", "b613679a0814d9ec772f95d778c35fc5ff1697c493715653c6c712144292c5ad"},
	} {
		if got := inHex(Mac([]byte(c.key), []byte(c.text))); got != c.want {
			t.Errorf("Mac of %q under %q: %s, want %s", c.text, c.key, got, c.want)
		}
	}
	if Mac(nil, nil) != published(nil, nil) || Mac([]byte{}, []byte{}) != published(nil, nil) {
		t.Error("Mac of nothing under no key")
	}
}

func TestMacOfEveryKeyLength(t *testing.T) { // H2: keys of no, few, 64, 65 and many bytes
	r := rand.New(rand.NewSource(1))
	for n := range 300 {
		for _, k := range []int{0, 1, 54, 55, 56, 63, 64, 65, r.Intn(500)} {
			key, b := chance(r, n), chance(r, k)
			if got, want := Mac(key, b), published(key, b); got != want {
				t.Errorf("a key of %d bytes, and %d bytes: %x, want %x", n, k, got, want)
			}
		}
	}
	key, b := chance(r, 100000), chance(r, 100000)
	if Mac(key, b) != published(key, b) {
		t.Error("a key of 100000 bytes, and as many bytes")
	}
}

func TestMacByItsWords(t *testing.T) { // H2: a long key is as its sum; noughts behind a short one say nothing
	long := bytes.Repeat([]byte("key "), 17)
	sum := Sum(long)
	if Mac(long, []byte("b")) != Mac(sum[:], []byte("b")) {
		t.Error("a key of 68 bytes is not as its sum")
	}
	whole := long[:64]
	sum = Sum(whole)
	if Mac(whole, []byte("b")) == Mac(sum[:], []byte("b")) {
		t.Error("a key of 64 bytes is as its sum")
	}
	if Mac([]byte("k"), []byte("b")) != Mac([]byte("k\x00\x00"), []byte("b")) {
		t.Error("a key of one byte is not as the same with noughts")
	}
	if Mac([]byte("k"), []byte("ab")) == Mac([]byte("ka"), []byte("b")) {
		t.Error("a byte of the key is as one of the bytes")
	}
}

func TestMacLeavesItsBytes(t *testing.T) { // P3: neither key nor bytes are written into, nor what stands behind them
	r := rand.New(rand.NewSource(2))
	for _, n := range []int{0, 1, 20, 31, 32, 33, 63, 64, 65, 100} {
		key, b := chance(r, n+100), chance(r, n+90)
		wasKey, was := string(key), string(b)
		got := Mac(key[:n], b[:n])
		if got != published([]byte(wasKey[:n]), []byte(was[:n])) {
			t.Errorf("a key of %d bytes: %x", n, got)
		}
		if string(key) != wasKey || string(b) != was {
			t.Errorf("Mac writes into a key of %d bytes, or into as many bytes, or behind them", n)
		}
		if same := Mac(key[:n], key[:n]); same != published(key[:n], key[:n]) || string(key) != wasKey {
			t.Errorf("a key of %d bytes, of itself: %x", n, same)
		}
	}
}

func TestSame(t *testing.T) { // H3: the same bytes, others at each place, by each bit, others' lengths, none
	r := rand.New(rand.NewSource(3))
	for n := range 100 {
		a := chance(r, n)
		b := append([]byte(nil), a...)
		if !Same(a, b) || !Same(a, a) {
			t.Errorf("%d same bytes are told apart", n)
		}
		for bit := range 8 * n {
			b[bit/8] ^= 1 << (bit % 8)
			if Same(a, b) || Same(b, a) {
				t.Errorf("%d bytes that differ by bit %d of the byte at %d are the same", n, bit%8, bit/8)
			}
			b[bit/8] ^= 1 << (bit % 8)
		}
		for k := range n {
			if Same(a, b[:k]) || Same(b[:k], a) {
				t.Errorf("%d bytes and the first %d of them are the same", n, k)
			}
		}
	}
}

func TestSameAtTheEdges(t *testing.T) { // H3
	for _, c := range []struct {
		a, b []byte
		want bool
	}{
		{nil, nil, true}, {nil, []byte{}, true}, {[]byte{}, nil, true}, {[]byte{}, []byte{}, true},
		{nil, []byte{0}, false}, {[]byte{0}, nil, false}, {[]byte{0}, []byte{0, 0}, false}, {[]byte{0, 0}, []byte{0}, false},
		{[]byte{1, 2}, []byte{2, 1}, false}, {[]byte{1, 1}, []byte{2, 2}, false}, {[]byte{128, 128}, []byte{0, 0}, false},
		{[]byte{1, 255}, []byte{0, 0}, false}, {[]byte{0, 0, 0}, []byte{0, 1, 0}, false}, {[]byte("key"), []byte("Key"), false},
		{[]byte{254, 2}, []byte{0, 0}, false}, {[]byte{0xff, 0xfe}, []byte{0xff, 0xfe}, true},
	} {
		if Same(c.a, c.b) != c.want {
			t.Errorf("Same(%v, %v) is %v", c.a, c.b, !c.want)
		}
	}
	room := []byte("abcabd")
	if !Same(room[:2], room[3:5]) || Same(room[:3], room[3:]) || string(room) != "abcabd" {
		t.Error("pieces of one list, of which the bytes behind differ")
	}
}

// least is the shortest of some runs: others of the machine can only make a run longer.
func least(call func()) time.Duration {
	shortest := time.Hour
	for range 15 {
		begin := time.Now()
		call()
		shortest = min(shortest, time.Since(begin))
	}
	return shortest
}

func TestSameLooksAtAllBytes(t *testing.T) { // H3: wherever they differ; one that ends at the first place is some thousand times as fast
	a, b := make([]byte, 1<<22), make([]byte, 1<<22)
	whole := least(func() { Same(a, b) })
	b[0] = 1
	if took := least(func() { Same(a, b) }); took < whole/100 {
		t.Errorf("bytes that differ at the first place take %v, the same ones %v", took, whole)
	}
}
