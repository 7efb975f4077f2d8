package session

import (
	"errors"
	"strings"
	"testing"

	"tocsin/api"
)

// TestFlawsWrapTheirNumbers: what is wrong with a token is an error that wraps a number and tells why (section 'Ways').
func TestFlawsWrapTheirNumbers(t *testing.T) {
	k := newKeeper(t, noughts, 10, 2, 3)
	numbers := []api.Errno{api.ErrArg, api.ErrToken, api.ErrExpired, api.ErrRevoked}
	for _, c := range []struct {
		token string
		now   int
		want  api.Errno
		why   string
	}{
		{"AAAA", -1, api.ErrArg, ""},
		{"A=", 0, api.ErrToken, "at 1"},
		{"AAAA", 0, api.ErrToken, "no sum"},
		{byHand(noughts, "", 15, 1), 0, api.ErrToken, "user"},
		{byHand(otherKey, "@a", 15, 1), 0, api.ErrToken, "sum"},
		{byHand(noughts, "@a", 15, 1), 15, api.ErrExpired, "over"},
		{byHand(noughts, "@a", 15, 1), 14, api.ErrRevoked, "taken back"},
	} {
		found, err := k.find(c.token, c.now)
		for _, number := range numbers {
			if errors.Is(err, number) != (number == c.want) {
				t.Errorf("%q at %d: errors.Is(%v, %d) is %v", c.token, c.now, err, number, number != c.want)
			}
		}
		if found != (token{}) || numberOf(err) != c.want || !strings.HasPrefix(err.Error(), c.want.Error()) || !strings.Contains(err.Error(), c.why) {
			t.Errorf("P2: %q at %d: %v, %v; want %d, %q", c.token, c.now, found, err, c.want, c.why)
		}
	}
}
