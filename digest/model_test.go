package digest

import (
	"math/big"
	"strconv"
	"strings"
)

const alphabet = "ABCDEFGHIJKLMNOPQRSTUVWXYZabcdefghijklmnopqrstuvwxyz0123456789-_"

// primes are the first n of them.
func primes(n int) []int64 {
	var found []int64
	for p := int64(2); len(found) < n; p++ {
		prime := true
		for _, q := range found {
			prime = prime && p%q != 0
		}
		if prime {
			found = append(found, p)
		}
	}
	return found
}

// rootBits are the first 32 bits behind the point of a root: of the greatest number whose power is no greater than n shifted.
func rootBits(n, power int64) uint32 {
	shifted := new(big.Int).Lsh(big.NewInt(n), uint(32*power))
	root := new(big.Int)
	for bit := 63; bit >= 0; bit-- {
		root.SetBit(root, bit, 1)
		if new(big.Int).Exp(root, big.NewInt(power), nil).Cmp(shifted) > 0 {
			root.SetBit(root, bit, 0)
		}
	}
	return uint32(root.Uint64())
}

// plainEncode goes through a text of noughts and ones.
func plainEncode(b []byte) string {
	var bits strings.Builder
	for _, c := range b {
		bits.WriteString(strconv.FormatUint(256+uint64(c), 2)[1:])
	}
	var text strings.Builder
	for rest := bits.String(); rest != ""; rest = rest[min(6, len(rest)):] {
		six := (rest + "00000")[:6]
		n, _ := strconv.ParseUint(six, 2, 8)
		text.WriteByte(alphabet[n])
	}
	return text.String()
}

// plainDecode gives the bytes and -1, or the place of the fault.
func plainDecode(s string) (string, int) {
	var bits strings.Builder
	for i := range len(s) {
		n := strings.IndexByte(alphabet, s[i])
		if n < 0 {
			return "", i
		}
		bits.WriteString(strconv.FormatUint(64+uint64(n), 2)[1:])
	}
	if len(s)%4 == 1 {
		return "", len(s) - 1
	}
	rest := bits.String()
	var b strings.Builder
	for ; len(rest) >= 8; rest = rest[8:] {
		n, _ := strconv.ParseUint(rest[:8], 2, 8)
		b.WriteByte(byte(n))
	}
	if strings.Contains(rest, "1") {
		return "", len(s) - 1
	}
	return b.String(), -1
}
