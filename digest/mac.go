package digest

// Mac is the sum of bytes under a key (H2).
func Mac(key []byte, b []byte) [Size]byte {
	if len(key) > blockSize {
		sum := Sum(key)
		key = sum[:]
	}
	inner := keyed(key, 54)
	inner.Write(b)
	sum := inner.Sum()
	outer := keyed(key, 92)
	outer.Write(sum[:])
	return outer.Sum()
}

// keyed begins a sum with a block of the key, each byte XOR the mask.
func keyed(key []byte, mask byte) *Hash {
	var block [blockSize]byte
	copy(block[:], key)
	for i := range block {
		block[i] ^= mask
	}
	h := New()
	h.Write(block[:])
	return h
}

// Same tells whether bytes are the same, whatever they are in as many steps (H3).
func Same(a []byte, b []byte) bool {
	if len(a) != len(b) {
		return false
	}
	// Who measures how long an answer takes must not learn how many bytes of a guess are right.
	var differ byte
	for i := range a {
		differ |= a[i] ^ b[i]
	}
	return differ == 0
}
