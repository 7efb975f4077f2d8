package room

import (
	"strings"

	"tocsin/api"
)

// The signs of names.
const (
	small   = "abcdefghijklmnopqrstuvwxyz0123456789"
	ofUsers = small + "._-=/"
	ofHosts = small + ".-"
	ofRest  = small + "ABCDEFGHIJKLMNOPQRSTUVWXYZ" + "._-=/:"
)

// IsUser tells whether a text may be a user's name (O1).
func IsUser(s string) bool {
	_, ok := hostOf(s)
	return ok
}

// IsRoom tells whether a text may be a room's name (O1).
func IsRoom(s string) bool { return isMarked(s, "!") }

// IsEvent tells whether a text may be an event's name (O1).
func IsEvent(s string) bool { return isMarked(s, "$") }

// Local tells whether a user is one of this server (O1).
func Local(user string) bool {
	host, ok := hostOf(user)
	return ok && host == api.Home
}

// hostOf gives the host of a user's name; false: it is none.
func hostOf(user string) (string, bool) {
	name, marked := strings.CutPrefix(user, "@")
	if !marked || len(user) > api.MaxID {
		return "", false
	}
	local, host, _ := strings.Cut(name, ":") // without a `:` there is no host
	if !madeOf(local, ofUsers) || !madeOf(host, ofHosts) {
		return "", false
	}
	return host, true
}

// isMarked tells whether a text is a mark, and behind it what may stand there in the names of rooms and events.
func isMarked(s string, mark string) bool {
	rest, marked := strings.CutPrefix(s, mark)
	return marked && len(s) <= api.MaxID && madeOf(rest, ofRest)
}

// madeOf tells whether a text has a sign, and none but these.
func madeOf(text string, signs string) bool {
	return text != "" && strings.TrimLeft(text, signs) == ""
}
