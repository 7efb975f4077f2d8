package digest

import "math/bits"

const (
	blockSize = 64 // bytes
	rounds    = 64
)

// state is what the blocks so far have come to.
type state [8]uint32

// The first 32 bits behind the point of the square roots of the primes from 2 to 19.
var squareRoots = [8]uint32{
	0x6a09e667, 0xbb67ae85, 0x3c6ef372, 0xa54ff53a, 0x510e527f, 0x9b05688c, 0x1f83d9ab, 0x5be0cd19,
}

// The first 32 bits behind the point of the cube roots of the primes from 2 to 311.
var cubeRoots = [rounds]uint32{
	0x428a2f98, 0x71374491, 0xb5c0fbcf, 0xe9b5dba5, 0x3956c25b, 0x59f111f1, 0x923f82a4, 0xab1c5ed5,
	0xd807aa98, 0x12835b01, 0x243185be, 0x550c7dc3, 0x72be5d74, 0x80deb1fe, 0x9bdc06a7, 0xc19bf174,
	0xe49b69c1, 0xefbe4786, 0x0fc19dc6, 0x240ca1cc, 0x2de92c6f, 0x4a7484aa, 0x5cb0a9dc, 0x76f988da,
	0x983e5152, 0xa831c66d, 0xb00327c8, 0xbf597fc7, 0xc6e00bf3, 0xd5a79147, 0x06ca6351, 0x14292967,
	0x27b70a85, 0x2e1b2138, 0x4d2c6dfc, 0x53380d13, 0x650a7354, 0x766a0abb, 0x81c2c92e, 0x92722c85,
	0xa2bfe8a1, 0xa81a664b, 0xc24b8b70, 0xc76c51a3, 0xd192e819, 0xd6990624, 0xf40e3585, 0x106aa070,
	0x19a4c116, 0x1e376c08, 0x2748774c, 0x34b0bcb5, 0x391c0cb3, 0x4ed8aa4a, 0x5b9cca4f, 0x682e6ff3,
	0x748f82ee, 0x78a5636f, 0x84c87814, 0x8cc70208, 0x90befffa, 0xa4506ceb, 0xbef9a3f7, 0xc67178f2,
}

// stir is the state behind one block more.
func stir(s state, block [blockSize]byte) state {
	words := spread(block)
	a, b, c, d, e, f, g, h := s[0], s[1], s[2], s[3], s[4], s[5], s[6], s[7]
	for t := range rounds {
		one := h + (turned(e, 6) ^ turned(e, 11) ^ turned(e, 25)) + (e&f | ^e&g) + cubeRoots[t] + words[t]
		two := (turned(a, 2) ^ turned(a, 13) ^ turned(a, 22)) + (a&b | a&c | b&c)
		a, b, c, d, e, f, g, h = one+two, a, b, c, d+one, e, f, g
	}
	for i, word := range [8]uint32{a, b, c, d, e, f, g, h} {
		s[i] += word
	}
	return s
}

// spread makes the words of all rounds from those of a block.
func spread(block [blockSize]byte) [rounds]uint32 {
	var words [rounds]uint32
	for t := range blockSize / 4 {
		words[t] = uint32(block[4*t])<<24 | uint32(block[4*t+1])<<16 | uint32(block[4*t+2])<<8 | uint32(block[4*t+3])
	}
	for t := blockSize / 4; t < rounds; t++ {
		far, near := words[t-15], words[t-2]
		words[t] = words[t-16] + words[t-7] +
			(turned(far, 7) ^ turned(far, 18) ^ far>>3) +
			(turned(near, 17) ^ turned(near, 19) ^ near>>10)
	}
	return words
}

// turned moves bits to the right; those that fall out come in from the left.
func turned(word uint32, n int) uint32 { return bits.RotateLeft32(word, -n) }

func (s state) bytes() [Size]byte {
	var sum [Size]byte
	for i, word := range s {
		for k := range 4 {
			sum[4*i+k] = byte(word >> (24 - 8*k))
		}
	}
	return sum
}
