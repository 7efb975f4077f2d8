package jsonval

import "strconv"

// Print writes a value, in its one way (J2).
func (v *Value) Print() string { return string(v.append(nil)) }

// append writes the value behind what is there.
func (v *Value) append(b []byte) []byte {
	switch v.Kind() {
	case Bool:
		return strconv.AppendBool(b, v.truth)
	case Int:
		return strconv.AppendInt(b, v.number, 10)
	case Text:
		return appendQuoted(b, v.text)
	case List:
		return append(v.appendItems(append(b, '[')), ']')
	case Object:
		return append(v.appendItems(append(b, '{')), '}')
	}
	return append(b, "null"...)
}

// appendItems writes the items of a list, or the members of an object.
func (v *Value) appendItems(b []byte) []byte {
	for i, item := range v.items {
		if i > 0 {
			b = append(b, ',')
		}
		if v.kind == Object {
			b = append(appendQuoted(b, v.keys[i]), ':')
		}
		b = item.append(b)
	}
	return b
}

func appendQuoted(b []byte, s string) []byte {
	b = append(b, '"')
	for i := range len(s) {
		b = appendByte(b, s[i])
	}
	return append(b, '"')
}

// appendByte writes a byte of a text; those of signs of several bytes stand as they are.
func appendByte(b []byte, c byte) []byte {
	const hex = "0123456789abcdef"
	switch c {
	case '"', '\\':
		return append(b, '\\', c)
	case '\b':
		return append(b, '\\', 'b')
	case '\f':
		return append(b, '\\', 'f')
	case '\n':
		return append(b, '\\', 'n')
	case '\r':
		return append(b, '\\', 'r')
	case '\t':
		return append(b, '\\', 't')
	}
	if c < ' ' {
		return append(b, '\\', 'u', '0', '0', hex[c>>4], hex[c&15])
	}
	return append(b, c)
}
