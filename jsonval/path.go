package jsonval

import (
	"unicode/utf8"

	"tocsin/api"
)

// Path takes a path apart, at its dots; an error is an *api.Fault (J6).
func Path(s string) ([]string, error) {
	if len(s) > api.MaxPath {
		return nil, fault(api.MaxPath, api.ErrSize)
	}
	var parts []string
	var part []byte
	for at := 0; at < len(s); {
		_, size := utf8.DecodeRuneInString(s[at:])
		switch c := s[at]; {
		case c >= utf8.RuneSelf && size == 1:
			return nil, fault(at, api.ErrUTF8)
		case c == '.':
			parts, part = append(parts, string(part)), nil
		case c != '\\':
			part = append(part, s[at:at+size]...)
		case at+1 == len(s) || s[at+1] != '.' && s[at+1] != '\\':
			return nil, fault(at, api.ErrPath)
		default:
			part = append(part, s[at+1])
			size = 2
		}
		at += size
	}
	return append(parts, string(part)), nil
}

// Look follows a path; nil: it leads nowhere (J6).
func (v *Value) Look(path []string) *Value {
	for _, part := range path {
		v = v.Get(part)
		if v == nil {
			return nil
		}
	}
	return v
}
