package rules

import (
	"strings"

	"tocsin/api"
	"tocsin/sign"
)

// A kind of rules is its place in the order in which the kinds are asked.
type kind int

const (
	override kind = iota
	content
	room
	sender
	underride
	kinds // how many there are
)

var kindNames = [kinds]string{override: "override", content: "content", room: "room", sender: "sender", underride: "underride"}

func (k kind) name() string { return kindNames[k] }

func kindOf(name string) (kind, bool) {
	for k := range kinds {
		if k.name() == name {
			return k, true
		}
	}
	return 0, false
}

// hasConditions tells whether rules of the kind come with conditions; those of the others follow from the ID or the pattern.
func (k kind) hasConditions() bool { return k == override || k == underride }

// mayBe tells whether a user's rule of the kind may have this ID.
func (k kind) mayBe(id string) bool {
	if id == "" || len(id) > api.MaxID || !sign.Valid(id) || strings.ContainsAny(id, `/\`) || isOwn(id) {
		return false
	}
	switch k {
	case room:
		return strings.HasPrefix(id, "!")
	case sender:
		return strings.HasPrefix(id, "@")
	}
	return true
}

// localPart gives what stands in a user's name ahead of the host; false: it is no user's name.
func localPart(user string) (string, bool) {
	name, ok := strings.CutPrefix(user, "@")
	local, host, whole := strings.Cut(name, ":")
	if !ok || !whole || len(user) > api.MaxID || !madeOf(local, "._-=/") || !madeOf(host, ".-") {
		return "", false
	}
	return local, true
}

// madeOf tells whether a text has a sign, and none but small letters, digits and the others.
func madeOf(text string, others string) bool {
	for _, r := range text {
		if !('a' <= r && r <= 'z' || '0' <= r && r <= '9' || strings.ContainsRune(others, r)) {
			return false
		}
	}
	return text != ""
}
