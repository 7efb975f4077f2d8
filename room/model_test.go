package room

import (
	"bytes"
	"encoding/binary"
	"encoding/json"
	"maps"
	"reflect"
	"regexp"
	"slices"
	"unicode/utf8"

	"tocsin/api"
)

// The model says what the chapter says, by other means: names are regular expressions, values are what encoding/json reads, and a room is the row of events that it has taken in: whatever is asked is sought out there anew.

var (
	userName  = regexp.MustCompile(`\A@[a-z0-9._=/-]+:([a-z0-9.-]+)\z`)
	roomName  = regexp.MustCompile(`\A![A-Za-z0-9._=/:-]+\z`)
	eventName = regexp.MustCompile(`\A\$[A-Za-z0-9._=/:-]+\z`)
)

func modelIsUser(s string) bool  { return len(s) <= 60 && userName.MatchString(s) }
func modelIsRoom(s string) bool  { return len(s) <= 60 && roomName.MatchString(s) }
func modelIsEvent(s string) bool { return len(s) <= 60 && eventName.MatchString(s) }
func modelLocal(s string) bool   { return modelIsUser(s) && userName.FindStringSubmatch(s)[1] == "home" }

// decoded is a value as encoding/json reads it.
func decoded(text string) any {
	d := json.NewDecoder(bytes.NewReader([]byte(text)))
	d.UseNumber()
	var v any
	if err := d.Decode(&v); err != nil {
		panic(err)
	}
	return v
}

type object = map[string]any

// A modelEvent is one, with its content.
type modelEvent struct {
	id, room, sender, kind string
	state                  bool
	key, redacts           string
	content                object
}

func modelRead(text string) (*modelEvent, api.Errno) {
	m, ok := decoded(text).(object)
	if !ok {
		return nil, api.ErrEvent
	}
	var e modelEvent
	for key, to := range map[string]*string{"event_id": &e.id, "room_id": &e.room, "sender": &e.sender, "type": &e.kind} {
		if *to, ok = m[key].(string); !ok {
			return nil, api.ErrEvent
		}
	}
	if e.content, ok = m["content"].(object); !ok {
		return nil, api.ErrEvent
	}
	key, there := m["state_key"]
	if e.key, ok = key.(string); there && !ok {
		return nil, api.ErrEvent
	}
	e.state = there
	redacts, takesBack := m["redacts"]
	takesBack = takesBack && e.kind == "m.room.redaction"
	if takesBack {
		if e.redacts, ok = redacts.(string); !ok {
			return nil, api.ErrEvent
		}
	}
	switch {
	case !modelIsEvent(e.id), !modelIsRoom(e.room), !modelIsUser(e.sender), len(e.kind) == 0, len(e.kind) > 60, len(e.key) > 60, takesBack && !modelIsEvent(e.redacts):
		return nil, api.ErrID
	}
	return &e, api.OK
}

// A model is a room: what it has taken in, in its order.
type model struct {
	id    string
	taken []*modelEvent
}

func (m *model) may(e *modelEvent) api.Errno {
	if e.room != m.id {
		return api.ErrForeign
	}
	known := m.known()
	if e.state && e.kind == "m.room.member" && modelIsUser(e.key) && !slices.Contains(known, e.key) && len(known) == 60 {
		return api.ErrUsers
	}
	return api.OK
}

func (m *model) apply(e *modelEvent) (bool, api.Errno) {
	if errno := m.may(e); errno != api.OK {
		return false, errno
	}
	old := m.print() // which tells all that is known
	m.taken = append(m.taken, e)
	return !reflect.DeepEqual(old, m.print()), api.OK
}

// known are the users of events of membership, rising.
func (m *model) known() []string {
	var names []string
	for _, e := range m.taken {
		if e.state && e.kind == "m.room.member" && modelIsUser(e.key) {
			names = append(names, e.key)
		}
	}
	slices.Sort(names)
	return slices.Compact(names)
}

// last is the content of the last event of state of a type and a key.
func (m *model) last(kind, key string) (object, bool) {
	for _, e := range slices.Backward(m.taken) {
		if e.state && e.kind == kind && e.key == key {
			return e.content, true
		}
	}
	return nil, false
}

func (m *model) membership(user string) string {
	content, there := m.last("m.room.member", user)
	if word, ok := content["membership"].(string); there && ok && modelIsUser(user) && slices.Contains([]string{"join", "invite", "ban"}, word) {
		return word
	}
	return "leave"
}

func (m *model) display(user string) string {
	if m.membership(user) != "join" {
		return ""
	}
	content, _ := m.last("m.room.member", user)
	name, _ := content["displayname"].(string)
	return name
}

func (m *model) joined() []string {
	return slices.DeleteFunc(m.known(), func(name string) bool { return m.membership(name) != "join" })
}

func (m *model) creator() string {
	for _, e := range m.taken {
		if e.state && e.kind == "m.room.create" && e.key == "" {
			return e.sender
		}
	}
	return ""
}

// modelLevel reads a number that may be one.
func modelLevel(v any) (int, bool) {
	number, ok := v.(json.Number)
	n, err := number.Int64()
	return int(n), ok && err == nil && n >= -1000 && n <= 1000
}

func modelLevels(v any, mayBe func(string) bool) map[string]int {
	levels := map[string]int{}
	members, _ := v.(object)
	for key, number := range members {
		if n, ok := modelLevel(number); ok && mayBe(key) {
			levels[key] = n
		}
	}
	return levels
}

func (m *model) levels() (others int, users, needs map[string]int, come bool) {
	content, come := m.last("m.room.power_levels", "")
	if n, ok := modelLevel(content["users_default"]); ok {
		others = n
	}
	return others, modelLevels(content["users"], modelIsUser), modelLevels(content["notifications"], utf8.ValidString), come
}

func (m *model) level(user string) int {
	others, users, _, come := m.levels()
	if n, ok := users[user]; ok {
		return n
	}
	if !come && m.creator() != "" && m.creator() == user {
		return 100
	}
	return others
}

// print is what Print gives, decoded.
func (m *model) print() any {
	others, levels, needs, come := m.levels()
	users := object{}
	for _, name := range m.known() {
		users[name] = object{"display": m.display(name), "membership": m.membership(name)}
	}
	text, err := json.Marshal(object{"creator": m.creator(), "default": others, "id": m.id, "joined": len(m.joined()), "leveled": come, "levels": levels, "needs": needs, "users": users})
	if err != nil {
		panic(err)
	}
	return decoded(string(text))
}

func putText(b []byte, s string) []byte {
	return append(binary.AppendUvarint(b, uint64(len(s))), s...)
}

func putLevels(b []byte, levels map[string]int) []byte {
	b = binary.AppendUvarint(b, uint64(len(levels)))
	for _, key := range slices.Sorted(maps.Keys(levels)) {
		b = binary.AppendVarint(putText(b, key), int64(levels[key]))
	}
	return b
}

func (m *model) save() []byte {
	known := m.known()
	b := binary.AppendUvarint(putText(nil, m.id), uint64(len(known)))
	for _, name := range known {
		b = putText(b, name)
		b = binary.AppendVarint(b, int64(slices.Index([]string{"leave", "join", "invite", "ban"}, m.membership(name))))
		b = putText(b, m.display(name))
	}
	b = putText(b, m.creator())
	others, levels, needs, come := m.levels()
	if come {
		b = append(b, 1)
	} else {
		b = append(b, 0)
	}
	return putLevels(putLevels(binary.AppendVarint(b, int64(others)), levels), needs)
}

// A scan goes through bytes; bad, when something was wrong.
type scan struct {
	b   []byte
	bad bool
}

func (s *scan) want(ok bool) { s.bad = s.bad || !ok }

func (s *scan) count() uint64 {
	n, size := binary.Uvarint(s.b)
	if size <= 0 || size != len(binary.AppendUvarint(nil, n)) {
		s.b, s.bad = nil, true
		return 0
	}
	s.b = s.b[size:]
	return n
}

func (s *scan) number() int64 {
	n := s.count()
	if n%2 == 1 {
		return -int64(n/2) - 1
	}
	return int64(n / 2)
}

func (s *scan) text() string {
	n := s.count()
	if n > uint64(len(s.b)) {
		s.b, s.bad = nil, true
		return ""
	}
	text := s.b[:n]
	s.b = s.b[n:]
	return string(text)
}

// keys goes through a list by rising keys.
func (s *scan) keys(most uint64, mayBe func(string) bool, one func()) int {
	n := s.count()
	if n > most {
		s.b, s.bad = nil, true
		return 0
	}
	var keys []string
	for range n {
		keys = append(keys, s.text())
		s.want(mayBe(keys[len(keys)-1]))
		one()
	}
	s.want(slices.IsSorted(keys) && len(slices.Compact(slices.Clone(keys))) == len(keys))
	return len(keys)
}

func (s *scan) level() int64 {
	n := s.number()
	s.want(n >= -1000 && n <= 1000)
	return n
}

// modelLoads tells whether bytes begin with a room, and what is left behind it.
func modelLoads(b []byte) ([]byte, bool) {
	s := &scan{b: b}
	s.want(modelIsRoom(s.text()))
	s.keys(60, modelIsUser, func() {
		n := s.number()
		display := s.text()
		s.want(n >= 0 && n <= 3 && utf8.ValidString(display) && (n == 1 || display == ""))
	})
	creator := s.text()
	s.want(creator == "" || modelIsUser(creator))
	come := s.count()
	s.want(come <= 1)
	others := s.level()
	levels := s.keys(64, modelIsUser, func() { s.level() })
	needs := s.keys(64, utf8.ValidString, func() { s.level() })
	s.want(come == 1 || others == 0 && levels == 0 && needs == 0)
	return s.b, !s.bad
}
