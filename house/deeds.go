package house

import (
	"slices"
	"strings"

	"tocsin/api"
	"tocsin/digest"
	"tocsin/engine"
	"tocsin/jsonval"
	"tocsin/room"
	"tocsin/route"
)

// Who alone may say what time it is, and what became of attempts.
const (
	clockUser = "@clock:home"
	gateUser  = "@gate:home"
)

// members are those of an Object.
type members map[string]*jsonval.Value

// login gives a token to who proves to know the key.
func (m *machine) login(_ string, o order) api.Response {
	v, err := jsonval.Parse([]byte(o.body))
	if err != nil || !hasTexts(v, "user", "proof") {
		return route.Refused(api.ErrCommand)
	}
	user := v.Get("user").Text()
	if !room.IsUser(user) {
		return route.Refused(api.ErrID)
	}
	if !m.isProof(v.Get("proof").Text(), user) {
		return route.Refused(api.ErrToken)
	}
	token, errno := m.keeper.Issue(user, m.now)
	if errno != api.OK {
		return route.Refused(errno)
	}
	m.welcome(user)
	return done(members{"token": jsonval.OfText(token)})
}

func (m *machine) isProof(proof, user string) bool {
	mac := digest.Mac(m.key, []byte("login "+user))
	return digest.Same([]byte(proof), []byte(digest.Hex(mac[:])))
}

// welcome makes a user one of the guests.
func (m *machine) welcome(user string) {
	place, found := slices.BinarySearch(m.guests, user)
	if !found {
		m.guests = slices.Insert(m.guests, place, user)
	}
}

func (m *machine) logout(_ string, o order) api.Response {
	m.keeper.Revoke(o.token, m.now)
	return done(members{})
}

// tellFeed tells a user what has changed since the place that stands in the target, if one does.
func (m *machine) tellFeed(who string, o order) api.Response {
	_, place, _ := strings.Cut(o.target, "since=")
	changed, gone, whole, next, errno := m.hub.Since(who, place)
	if errno != api.OK {
		return route.Refused(errno)
	}
	return done(members{
		"changed": listOf(changed, ofCount),
		"gone":    listOf(gone, jsonval.OfText),
		"next":    jsonval.OfText(next),
		"whole":   jsonval.OfBool(whole),
	})
}

func ofCount(c api.Count) *jsonval.Value {
	return jsonval.OfMap(members{
		"room":      jsonval.OfText(c.Room),
		"unread":    jsonval.OfInt(int64(c.Unread)),
		"highlight": jsonval.OfInt(int64(c.Highlight)),
	})
}

func listOf[T any](list []T, of func(T) *jsonval.Value) *jsonval.Value {
	var values []*jsonval.Value
	for _, one := range list {
		values = append(values, of(one))
	}
	return jsonval.OfList(values...)
}

// command lets the engine do what a user asks for.
func (m *machine) command(who string, o order) api.Response {
	c, errno := route.Command(api.Request{Method: o.method, Target: o.target, Body: []byte(o.body)}, who)
	if errno != api.OK {
		return route.Refused(errno)
	}
	if !mayAsk(who, c) {
		return route.Refused(api.ErrForeign)
	}
	answer := m.engine.Do(c)
	if c.Get("do").Text() == "tick" && answer.Get("ok").True() {
		m.now = int(c.Get("now").Number())
	}
	if engine.Changes(c) {
		m.putSheets()
	}
	return route.Response(answer)
}

// mayAsk tells whether a command is one that this user may give.
func mayAsk(who string, c *jsonval.Value) bool {
	switch c.Get("do").Text() {
	case "event":
		return jsonval.Same(c.Get("event").Get("sender"), jsonval.OfText(who))
	case "tick", "rotate":
		return who == clockUser
	case "reply":
		return who == gateUser
	}
	return true
}

// putSheets lets the feeds of all guests know what they have not read now.
func (m *machine) putSheets() {
	for _, guest := range m.guests {
		m.hub.Put(guest, m.countsOf(guest))
	}
}

// countsOf is what a user has not read; of who is not local the engine tells no rooms.
func (m *machine) countsOf(user string) []api.Count {
	rooms := m.engine.Do(jsonval.OfMap(members{"do": jsonval.OfText("counts"), "user": jsonval.OfText(user)})).Get("rooms")
	var list []api.Count
	for i := range rooms.Len() {
		one := rooms.Item(i)
		list = append(list, api.Count{
			Room:      one.Get("room").Text(),
			Unread:    int(one.Get("unread").Number()),
			Highlight: int(one.Get("highlight").Number()),
		})
	}
	return list
}

// done is the answer of what was done, which tells this, too.
func done(told members) api.Response {
	told["ok"] = jsonval.OfBool(true)
	return route.Response(jsonval.OfMap(told))
}
