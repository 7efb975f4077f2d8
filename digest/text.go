package digest

import "tocsin/api"

const (
	signs    = "ABCDEFGHIJKLMNOPQRSTUVWXYZabcdefghijklmnopqrstuvwxyz0123456789-_"
	hexSigns = "0123456789abcdef"
	perSign  = 6 // bits
	perByte  = 8
)

// Encode writes bytes as text (H4).
func Encode(b []byte) string {
	text := make([]byte, 0, (len(b)*perByte+perSign-1)/perSign)
	bits, held := uint(0), 0 // the last held ones of bits are not written yet
	for _, c := range b {
		bits, held = bits<<perByte|uint(c), held+perByte
		for held >= perSign {
			held -= perSign
			text = append(text, signs[(bits>>held)%64])
		}
	}
	if held > 0 {
		text = append(text, signs[(bits<<(perSign-held))%64])
	}
	return string(text)
}

// Decode reads what Encode writes, and nothing else; an error is an *api.Fault (H4).
func Decode(s string) ([]byte, error) {
	b := make([]byte, 0, len(s)*perSign/perByte)
	bits, held := uint(0), 0 // the last held ones of bits belong to no byte yet
	for i := range len(s) {
		n, ok := number(s[i])
		if !ok {
			return nil, &api.Fault{At: i, Err: api.ErrText}
		}
		bits, held = bits<<perSign|n, held+perSign
		if held >= perByte {
			held -= perByte
			b = append(b, byte(bits>>held))
		}
	}
	// A sign that is one too many brings no byte to its end; all its bits are held.
	if held == perSign || bits%(1<<held) != 0 {
		return nil, &api.Fault{At: len(s) - 1, Err: api.ErrText}
	}
	return b, nil
}

// number is what a sign of a text stands for, and whether it is one.
func number(c byte) (uint, bool) {
	switch {
	case 'A' <= c && c <= 'Z':
		return uint(c - 'A'), true
	case 'a' <= c && c <= 'z':
		return uint(c-'a') + 26, true
	case '0' <= c && c <= '9':
		return uint(c-'0') + 52, true
	case c == '-':
		return 62, true
	case c == '_':
		return 63, true
	}
	return 0, false
}

// Hex writes bytes in base sixteen (H4).
func Hex(b []byte) string {
	text := make([]byte, 0, 2*len(b))
	for _, c := range b {
		text = append(text, hexSigns[c>>4], hexSigns[c%16])
	}
	return string(text)
}
