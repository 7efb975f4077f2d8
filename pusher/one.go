package pusher

import (
	"cmp"
	"strings"

	"tocsin/api"
	"tocsin/jsonval"
	"tocsin/queue"
)

// A name is what tells a pusher from all others.
type name struct {
	user, key string
}

// A pusher is a queue of notes, for somebody.
type pusher struct {
	*queue.Queue[string]
	name
	full    bool // the format of the notes that come
	attempt int  // 0: the oldest note is not being tried
}

// The formats.
const (
	formatFull = "full"
	formatIDs  = "event_id_only"
)

func newPusher(user, key string) *pusher {
	notes, _ := queue.New[string](api.MaxQueue, api.BaseDelay, api.MaxDelay) // within its bounds, always
	return &pusher{Queue: notes, name: name{user, key}}
}

// mayBe tells whether a pusher may have this name.
func mayBe(user, key string) bool {
	return len(user) <= api.MaxID && 1 <= len(key) && len(key) <= api.MaxID && !strings.ContainsFunc(key, unseen)
}

// unseen tells whether a sign is none of those of which keys are made; bytes that are no sign are told as a sign above them.
func unseen(sign rune) bool { return sign < '!' || sign > '~' }

// compare holds names against each other by their order.
func compare(a, b name) int {
	return cmp.Or(strings.Compare(a.user, b.user), strings.Compare(a.key, b.key))
}

// note lets a note wait.
func (one *pusher) note(payload string) {
	if _, dropped := one.Put(payload); dropped {
		one.attempt = 0 // if there was one, it was of the note that has gone
	}
}

func (one *pusher) format() string {
	if one.full {
		return formatFull
	}
	return formatIDs
}

func (one *pusher) print() *jsonval.Value {
	waits, failures, until, dropped := one.State()
	return jsonval.OfMap(map[string]*jsonval.Value{
		"key":      jsonval.OfText(one.key),
		"format":   jsonval.OfText(one.format()),
		"waits":    number(waits),
		"failures": number(failures),
		"until":    number(until),
		"dropped":  number(dropped),
		"attempt":  number(one.attempt),
	})
}

func number(n int) *jsonval.Value { return jsonval.OfInt(int64(n)) }
