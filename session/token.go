package session

import (
	"errors"

	"tocsin/api"
	"tocsin/digest"
	"tocsin/wire"
)

// A token as it is before it becomes a text.
type token struct {
	user          string
	number, until int64
}

// A flaw is what is wrong with a token: the number by which that is told, and why.
type flaw struct {
	number api.Errno
	why    string
}

// Error tells it.
func (f *flaw) Error() string { return f.number.Error() + ": " + f.why }

// Unwrap gives the number.
func (f *flaw) Unwrap() error { return f.number }

// numberOf is the number by which what is wrong is told.
func numberOf(err error) api.Errno {
	for _, number := range [...]api.Errno{api.ErrArg, api.ErrToken, api.ErrExpired} {
		if errors.Is(err, number) {
			return number
		}
	}
	return api.ErrRevoked
}

// text is a token's text under a key.
func (t token) text(key []byte) string {
	w := wire.NewWriter()
	w.Text(t.user)
	w.Int(t.until)
	w.Int(t.number)
	b := w.Bytes()
	mac := digest.Mac(key, b)
	return digest.Encode(append(b, mac[:]...))
}

// readText reads the text of a token under this key, be it live or not.
func readText(text string, key []byte) (token, error) {
	b, err := digest.Decode(text)
	if err != nil {
		return token{}, &flaw{api.ErrToken, err.Error()}
	}
	if len(b) < digest.Size {
		return token{}, &flaw{api.ErrToken, "it has no sum"}
	}
	said, sum := b[:len(b)-digest.Size], b[len(b)-digest.Size:]
	t, ok := readBytes(said)
	if !ok {
		return token{}, &flaw{api.ErrToken, "it says nothing of a user"}
	}
	mac := digest.Mac(key, said)
	if !digest.Same(mac[:], sum) {
		return token{}, &flaw{api.ErrToken, "its sum is another one"}
	}
	return t, nil
}

// readBytes reads what stands ahead of a token's sum; false, if no token says so.
func readBytes(said []byte) (token, bool) {
	r := wire.NewReader(said)
	var t token
	t.user = r.Text()
	t.until = r.Int()
	t.number = r.Int()
	return t, r.End() && isUser(t.user)
}
