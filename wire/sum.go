package wire

// turns is what the sum is XORed with, when a bit of the bytes is not its lowest one.
const turns = 0x82F63B78

// Sum is the sum of bytes (W5).
func Sum(b []byte) uint32 {
	sum := ^uint32(0)
	for _, x := range b {
		// The byte's bits meet those of the sum that are the lowest when their turn comes, so all eight may be XORed in ahead.
		sum ^= uint32(x)
		for range 8 {
			sum = sum>>1 ^ turns&-(sum&1)
		}
	}
	return ^sum
}
