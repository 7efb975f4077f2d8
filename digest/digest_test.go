package digest

import (
	"bytes"
	"crypto/sha256"
	"math/rand"
	"strings"
	"sync"
	"testing"
)

// The calls as they were given.
var (
	_ func() *Hash                    = New
	_ func(*Hash, []byte)             = (*Hash).Write
	_ func(*Hash) [32]byte            = (*Hash).Sum
	_ func([]byte) [Size]byte         = Sum
	_ func([]byte, []byte) [Size]byte = Mac
	_ func([]byte, []byte) bool       = Same
	_ func([]byte) string             = Encode
	_ func(string) ([]byte, error)    = Decode
	_ func([]byte) string             = Hex
)

const _ = uint(Size-32) + uint(32-Size)

// chance makes n bytes, always the same ones of a seed.
func chance(r *rand.Rand, n int) []byte {
	b := make([]byte, n)
	for i := range b {
		b[i] = byte(r.Intn(256))
	}
	return b
}

func inHex(sum [Size]byte) string { return Hex(sum[:]) }

// sums wants the sum of bytes that the library has.
func sums(t *testing.T, what string, b []byte) {
	t.Helper()
	want := sha256.Sum256(b)
	if got := Sum(b); got != want {
		t.Errorf("H1: %s: the sum is %x, want %x", what, got, want)
	}
}

func TestTablesAreTheRootsBits(t *testing.T) { // H1: section 'The sum'
	for i, p := range primes(len(squareRoots)) {
		if want := rootBits(p, 2); squareRoots[i] != want {
			t.Errorf("the square root of %d: %08x, want %08x", p, squareRoots[i], want)
		}
	}
	list := primes(len(cubeRoots))
	if len(list) != 64 || list[63] != 311 {
		t.Fatalf("%d primes, up to %d", len(list), list[len(list)-1])
	}
	for i, p := range list {
		if want := rootBits(p, 3); cubeRoots[i] != want {
			t.Errorf("the cube root of %d: %08x, want %08x", p, cubeRoots[i], want)
		}
	}
}

func TestPublishedSums(t *testing.T) { // H1: the document's examples, and those of FIPS 180
	for _, c := range []struct{ text, want string }{
		{"", "e3b0c44298fc1c149afbf4c8996fb92427ae41e4649b934ca495991b7852b855"},
		{"abc", "ba7816bf8f01cfea414140de5dae2223b00361a396177a9cb410ff61f20015ad"},
		{"abcdbcdecdefdefgefghfghighijhijkijkljklmklmnlmnomnopnopq", "248d6a61d20638b8e5c026930c3e6039a33ce45964ff2167f6ecedd419db06c1"},
		{"abcdefghbcdefghicdefghijdefghijkefghijklfghijklmghijklmnhijklmnoijklmnopjklmnopqklmnopqrlmnopqrsmnopqrstnopqrstu", "cf5b16a778af8380036ce59e7b0492370b249b11e8f07a51afac45037afee9d1"},
		{strings.Repeat("a", 1000000), "cdc76e5c9914fb9281a1c7e284d73e67f1809a48a497200e046d39ccc7112cd0"},
	} {
		if got := inHex(Sum([]byte(c.text))); got != c.want {
			t.Errorf("Sum of %d bytes that begin with %.9q: %s, want %s", len(c.text), c.text, got, c.want)
		}
	}
	if got := Sum(nil); got != Sum([]byte{}) || got != New().Sum() {
		t.Errorf("Sum(nil) is %x, which is not that of a list of nothing, or not that of a new one", got)
	}
}

func TestSumsOfEveryLength(t *testing.T) { // H1: 55, 56, 63, 64, 65 bytes, and so on
	r := rand.New(rand.NewSource(1))
	for n := range 1100 {
		sums(t, "bytes by chance", chance(r, n))
		sums(t, "noughts", make([]byte, n))
		sums(t, "ones", bytes.Repeat([]byte{255}, n))
	}
	for _, n := range []int{4095, 4096, 4097, 65535, 65536, 100001} {
		sums(t, "many blocks", chance(r, n))
	}
}

func TestSumsOfEachBit(t *testing.T) { // H1: no bit of a block, nor of the last bytes, goes without a trace
	for _, n := range []int{1, 55, 56, 64, 119, 130} {
		for bit := range 8 * n {
			b := make([]byte, n)
			b[bit/8] = 1 << (bit % 8)
			sums(t, "one bit", b)
		}
	}
}

func TestEnding(t *testing.T) { // H1: the number of bits has 8 bytes, the highest first; the noughts are as few as may be
	for _, c := range []struct {
		count uint64
		want  string
	}{
		{0, "80" + strings.Repeat("00", 55) + "0000000000000000"},
		{1, "80" + strings.Repeat("00", 54) + "0000000000000008"},
		{55, "80" + "00000000000001b8"},
		{56, "80" + strings.Repeat("00", 63) + "00000000000001c0"},
		{63, "80" + strings.Repeat("00", 56) + "00000000000001f8"},
		{64, "80" + strings.Repeat("00", 55) + "0000000000000200"},
		{1<<31 - 1, "80" + strings.Repeat("00", 56) + "00000003fffffff8"},
		{0x0102030405060700 >> 3, "80" + strings.Repeat("00", 23) + "0102030405060700"},
	} {
		if got := Hex(ending(c.count)); got != c.want {
			t.Errorf("behind %d bytes: %s, want %s", c.count, got, c.want)
		}
	}
}

func TestMoreBitsThanAWordCounts(t *testing.T) { // H1: 2^29 bytes have 2^32 bits
	t.Parallel()
	piece := bytes.Repeat([]byte("tocsin 0"), 1<<17)
	h, want := New(), sha256.New()
	for range 513 {
		h.Write(piece)
		want.Write(piece)
	}
	if got := h.Sum(); string(got[:]) != string(want.Sum(nil)) {
		t.Errorf("the sum of %d bytes: %x, want %x", 513*len(piece), got, want.Sum(nil))
	}
}

func TestCutInTwoAndThree(t *testing.T) { // H1: however the bytes are cut, sums asked between the pieces
	b := chance(rand.New(rand.NewSource(2)), 135)
	var want [136][Size]byte
	for n := range want {
		want[n] = sha256.Sum256(b[:n])
	}
	for i := range len(b) + 1 {
		for k := i; k <= len(b); k++ {
			asked, silent := New(), New()
			at := 0
			for _, next := range []int{i, k, len(b)} {
				asked.Write(b[at:next])
				silent.Write(b[at:next])
				at = next
				if got := asked.Sum(); got != want[at] || asked.Sum() != got {
					t.Fatalf("cut at %d and %d: the sum of the first %d bytes is %x, want %x, twice", i, k, at, got, want[at])
				}
			}
			if got := silent.Sum(); got != want[at] {
				t.Fatalf("cut at %d and %d, asked at the end alone: %x, want %x", i, k, got, want[at])
			}
		}
	}
}

func TestPiecesOfOneLength(t *testing.T) { // H1
	b := chance(rand.New(rand.NewSource(3)), 700)
	want := sha256.Sum256(b)
	for size := 1; size <= len(b); size++ {
		h := New()
		for at := 0; at < len(b); at += size {
			h.Write(b[at:min(at+size, len(b))])
			h.Write(nil)
			h.Write([]byte{})
		}
		if got := h.Sum(); got != want {
			t.Errorf("pieces of %d: %x, want %x", size, got, want)
		}
	}
}

func TestPiecesByChance(t *testing.T) { // H1
	r := rand.New(rand.NewSource(4))
	for range 300 {
		b := chance(r, r.Intn(2000))
		h, most := New(), 1+r.Intn(300)
		for at := 0; at < len(b); {
			next := min(len(b), at+r.Intn(most+1))
			h.Write(b[at:next])
			at = next
			if r.Intn(4) == 0 && h.Sum() != sha256.Sum256(b[:at]) {
				t.Fatalf("the sum of the first %d of %d bytes, in pieces of at most %d, is wrong", at, len(b), most)
			}
		}
		if h.Sum() != sha256.Sum256(b) {
			t.Fatalf("the sum of %d bytes, in pieces of at most %d, is wrong", len(b), most)
		}
	}
}

func TestSumsByTurns(t *testing.T) { // H1, P4: sums in the making have nothing to do with one another
	r := rand.New(rand.NewSource(5))
	var made [5]*Hash
	var all [5][]byte
	for i := range made {
		made[i] = New()
	}
	for range 2000 {
		i := r.Intn(len(made))
		piece := chance(r, r.Intn(80))
		made[i].Write(piece)
		all[i] = append(all[i], piece...)
		k := r.Intn(len(made))
		if got, want := made[k].Sum(), sha256.Sum256(all[k]); got != want {
			t.Fatalf("the sum of %d bytes: %x, want %x", len(all[k]), got, want)
		}
	}
	if New().Sum() != sha256.Sum256(nil) {
		t.Error("a new sum begins with bytes of others")
	}
}

func TestSumsAtOneTime(t *testing.T) { // P4
	var all sync.WaitGroup
	for seed := range 8 {
		all.Go(func() {
			r := rand.New(rand.NewSource(int64(seed)))
			for n := range 400 {
				b := chance(r, n)
				if Sum(b) != sha256.Sum256(b) {
					t.Errorf("the sum of %d bytes, while others sum", n)
				}
			}
		})
	}
	all.Wait()
}

func TestWriteLeavesItsBytes(t *testing.T) { // H1, P3: b is neither kept nor written into, nor what stands behind it
	r := rand.New(rand.NewSource(6))
	for n := range 200 {
		room := chance(r, n+150)
		was := string(room)
		h := New()
		h.Write(room[:n])
		if string(room) != was {
			t.Fatalf("Write of %d bytes writes into them, or behind them", n)
		}
		clear(room)
		if h.Sum() != sha256.Sum256([]byte(was[:n])) {
			t.Fatalf("Write of %d bytes keeps them", n)
		}
		copy(room, was)
		h.Write(room[n : n+75])
		if string(room) != was {
			t.Fatalf("Write of 75 bytes behind %d writes into them, or behind them", n)
		}
		clear(room)
		if h.Sum() != sha256.Sum256([]byte(was[:n+75])) {
			t.Fatalf("Write of 75 bytes behind %d keeps them", n)
		}
		copy(room, was)
		if Sum(room[:n]) != sha256.Sum256([]byte(was[:n])) || string(room) != was {
			t.Fatalf("Sum of %d bytes writes into them, or behind them", n)
		}
	}
}

func TestSumIsTheCallers(t *testing.T) { // P3: who writes into a sum changes none that comes later
	h := New()
	h.Write([]byte("abc"))
	one := h.Sum()
	clear(one[:])
	if h.Sum() != sha256.Sum256([]byte("abc")) || Sum([]byte("abc")) != sha256.Sum256([]byte("abc")) {
		t.Error("a sum that was written into is given again")
	}
}
