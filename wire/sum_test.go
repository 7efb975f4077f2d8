package wire

import (
	"hash/crc32"
	"math/rand"
	"strings"
	"testing"
	"time"
)

func TestSumsThatAreKnown(t *testing.T) {
	for _, c := range []struct {
		text string
		want uint32
	}{
		{"123456789", 0xe3069283}, {"", 0}, {"a", 0xc1d04330}, {"abc", 0x364b3fb7},
		{strings.Repeat("\x00", 32), 0x8a9136aa}, {strings.Repeat("\xff", 32), 0x62a8ab43},
	} {
		if got := Sum([]byte(c.text)); got != c.want {
			t.Errorf("W5: Sum(%q) = %08x, want %08x", c.text, got, c.want)
		}
	}
	if Sum(nil) != 0 {
		t.Error("W5: the sum of nil is not that of no bytes")
	}
}

func TestSumsOfBits(t *testing.T) {
	known := crc32.MakeTable(crc32.Castagnoli)
	chance := rand.New(rand.NewSource(5))
	try := func(b []byte) {
		t.Helper()
		if got, want := Sum(b), sumOfBits(b); got != want || want != crc32.Checksum(b, known) {
			t.Fatalf("W5: the sum of % x is %08x, want %08x", b[:min(len(b), 40)], got, want)
		}
	}
	for x := range 1 << 16 {
		try([]byte{byte(x)})
		try([]byte{byte(x), byte(x >> 8)})
	}
	for range 3000 {
		b := make([]byte, chance.Intn(200))
		chance.Read(b)
		try(b)
	}
	try(make([]byte, 100000))
}

// turn turns the bits of b that mask has, from a bit on, each byte's lowest first.
func turn(b []byte, from int, mask uint32) []byte {
	c := append([]byte(nil), b...)
	for i := range 32 {
		if mask>>i&1 == 1 {
			c[(from+i)/8] ^= 1 << ((from + i) % 8)
		}
	}
	return c
}

// fits tells whether bits of a mask, from a bit on, lie in b.
func fits(b []byte, from int, mask uint32) bool {
	last := 0
	for i := range 32 {
		if mask>>i&1 == 1 {
			last = i
		}
	}
	return from+last < 8*len(b)
}

func TestTurnedBitsHaveAnotherSum(t *testing.T) {
	chance := rand.New(rand.NewSource(4))
	for _, length := range []int{1, 2, 3, 4, 5, 6, 9, 40, 300} {
		b := make([]byte, length)
		chance.Read(b)
		was := Sum(b)
		for from := range 8 * length {
			try := func(mask uint32) {
				if fits(b, from, mask) && Sum(turn(b, from, mask)) == was {
					t.Fatalf("W5: % x has the same sum with the bits %08x from %d on turned", b, mask, from)
				}
			}
			for bits := 1; bits <= 32; bits++ {
				try(uint32(1<<bits - 1)) // all of them
				try(1 | 1<<(bits-1))     // the first and the last
				try(chance.Uint32() | 1) // some of them
			}
		}
	}
	b := []byte("ab\x00\xffcd")
	was := Sum(b)
	for mask := uint32(1); mask < 1<<16; mask++ {
		for _, from := range []int{0, 5, 16, 32} {
			if Sum(turn(b, from, mask)) == was {
				t.Fatalf("W5: the same sum with the bits %04x from %d on turned", mask, from)
			}
		}
	}
}

func TestSumOfLongBytes(t *testing.T) {
	began := time.Now()
	Sum(make([]byte, 1<<25))
	if took := time.Since(began); took > 20*time.Second {
		t.Errorf("W5: a sum of 2^25 bytes takes %v", took)
	}
}
