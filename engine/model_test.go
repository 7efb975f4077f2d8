package engine

import (
	"slices"
	"strconv"
	"strings"

	"tocsin/api"
	"tocsin/jsonval"
	"tocsin/room"
	"tocsin/rules"
	"tocsin/wire"
)

// A model keeps what came, in its order, and reckons all else from that whenever it is asked.
type model struct {
	time   int
	log    []happening
	people []*modelPerson
	posts  []*modelPusher
	tried  int // how many attempts there were
}

// A happening is an event that was taken in, or something by which a user has read up to a place.
type happening struct {
	event *room.Event // nil: somebody has read
	told  []api.Verdict
	user  string
	room  string
	place int
}

type modelPerson struct {
	name  string
	rules *rules.Set
}

type modelPusher struct {
	user, key, format                 string
	notes                             []string
	failures, until, dropped, attempt int
}

// modelFields has the document's table of fields: which kind each has; with a `?` it may be left out.
func modelFields(do string) (string, bool) {
	fields, ok := map[string]string{
		"event":         "event=any",
		"put_rule":      "user=text kind=text id=text rule=object before=text? after=text?",
		"delete_rule":   "user=text kind=text id=text",
		"enable_rule":   "user=text kind=text id=text enabled=bool",
		"set_actions":   "user=text kind=text id=text actions=list",
		"rules":         "user=text",
		"receipt":       "user=text room=text event=text",
		"counts":        "user=text room=text?",
		"set_pusher":    "user=text key=text format=text",
		"remove_pusher": "user=text key=text",
		"pushers":       "user=text",
		"tick":          "now=int",
		"reply":         "attempt=int result=text",
		"rotate":        "",
		"room":          "room=text",
	}[do]
	return fields, ok
}

const (
	giving = " put_rule delete_rule enable_rule set_actions receipt set_pusher "
	asking = " rules counts pushers room "
)

func kindWord(v *jsonval.Value) string {
	return []string{"null", "bool", "int", "text", "list", "object"}[v.Kind()]
}

// shapeless tells whether a command is none (the first of E2's errors).
func shapeless(v *jsonval.Value) bool {
	if v.Kind() != jsonval.Object || v.Get("do").Kind() != jsonval.Text {
		return true
	}
	fields, ok := modelFields(v.Get("do").Text())
	if !ok {
		return true
	}
	for _, f := range strings.Fields(fields) {
		key, kind, _ := strings.Cut(f, "=")
		kind, may := strings.CutSuffix(kind, "?")
		at := v.Get(key)
		switch {
		case at == nil && !may:
			return true
		case at != nil && kind != "any" && kind != kindWord(at):
			return true
		}
	}
	return false
}

// misnamed is the second of E2's errors.
func misnamed(v *jsonval.Value) int {
	do := v.Get("do").Text()
	fields, _ := modelFields(do)
	if user := v.Get("user").Text(); strings.Contains(fields, "user=") {
		if !room.IsUser(user) {
			return 92
		}
		if !strings.HasSuffix(user, ":home") {
			return 91
		}
	}
	if strings.Contains(fields, "room=") && v.Get("room") != nil && !room.IsRoom(v.Get("room").Text()) {
		return 92
	}
	if do == "receipt" && !room.IsEvent(v.Get("event").Text()) {
		return 92
	}
	return 0
}

func failed(errno int) string { return `{"error":` + strconv.Itoa(errno) + `}` }

// do answers a command, as a text.
func (m *model) do(v *jsonval.Value) string {
	if shapeless(v) {
		return failed(140)
	}
	if errno := misnamed(v); errno != 0 {
		return failed(errno)
	}
	do, user := v.Get("do").Text(), v.Get("user").Text()
	if strings.Contains(giving, " "+do+" ") && m.person(user) == nil && len(m.people) >= 200 {
		return failed(143)
	}
	errno, said := m.run(do, user, v)
	if errno != api.OK {
		return failed(int(errno))
	}
	if strings.Contains(giving, " "+do+" ") && m.person(user) == nil && said != `"changed":false,"ok":true` {
		s, _ := rules.New(user)
		m.people = append(m.people, &modelPerson{user, s})
	}
	return "{" + said + "}"
}

// run does a command; what it says are the members of its answer.
func (m *model) run(do, user string, v *jsonval.Value) (api.Errno, string) {
	text := func(key string) string { return v.Get(key).Text() }
	switch do {
	case "event":
		return m.event(v.Get("event"))
	case "put_rule":
		return m.changed(user, func(s *rules.Set) api.Errno {
			return s.Put(text("kind"), text("id"), v.Get("rule"), text("before"), text("after"))
		})
	case "delete_rule":
		return m.changed(user, func(s *rules.Set) api.Errno { return s.Delete(text("kind"), text("id")) })
	case "enable_rule":
		return m.changed(user, func(s *rules.Set) api.Errno { return s.Enable(text("kind"), text("id"), v.Get("enabled").True()) })
	case "set_actions":
		return m.changed(user, func(s *rules.Set) api.Errno { return s.SetActions(text("kind"), text("id"), v.Get("actions")) })
	case "rules":
		return api.OK, `"ok":true,"rules":` + m.rules(user).Print().Print()
	case "receipt":
		return api.OK, `"changed":` + strconv.FormatBool(m.receipt(user, text("room"), text("event"))) + `,"ok":true`
	case "counts":
		return api.OK, m.counts(user, v.Get("room"))
	case "set_pusher":
		return m.setPusher(user, text("key"), text("format")), `"ok":true`
	case "remove_pusher":
		return m.removePusher(user, text("key")), `"ok":true`
	case "pushers":
		return api.OK, `"ok":true,"pushers":` + m.printPushers(user)
	case "tick":
		return m.tick(v.Get("now").Number())
	case "reply":
		return m.reply(int(v.Get("attempt").Number()), text("result")), `"ok":true`
	case "rotate":
		return api.OK, `"kept":` + strconv.Itoa(len(m.live())) + `,"ok":true`
	}
	r := m.room(text("room"))
	if r == nil {
		return api.ErrState, ""
	}
	return api.OK, `"ok":true,"room":` + r.Print().Print()
}

func (m *model) person(name string) *modelPerson {
	for _, p := range m.people {
		if p.name == name {
			return p
		}
	}
	return nil
}

func (m *model) rules(user string) *rules.Set {
	if p := m.person(user); p != nil {
		return p.rules
	}
	s, _ := rules.New(user)
	return s
}

func (m *model) changed(user string, how func(s *rules.Set) api.Errno) (api.Errno, string) {
	s := m.rules(user)
	errno := how(s)
	if errno == api.OK && m.person(user) == nil {
		m.people = append(m.people, &modelPerson{user, s})
	}
	return errno, `"ok":true`
}

// events are those of the stream, in their order.
func (m *model) events() []happening {
	var all []happening
	for _, h := range m.log {
		if h.event != nil {
			all = append(all, h)
		}
	}
	return all
}

// roomNames are the rooms of which there are events, by rising names.
func (m *model) roomNames() []string {
	var names []string
	for _, h := range m.events() {
		names = append(names, h.event.Room)
	}
	slices.Sort(names)
	return slices.Compact(names)
}

// room is made anew from its events; nil, if there are none.
func (m *model) room(name string) *room.Room {
	r, _ := room.New(name)
	any := false
	for _, h := range m.events() {
		if h.event.Room == name {
			r.Apply(h.event)
			any = true
		}
	}
	if !any {
		return nil
	}
	return r
}

// members are the local ones.
func members(r *room.Room) []string {
	var all []string
	if r == nil {
		return nil
	}
	for _, user := range r.Joined() {
		if strings.HasSuffix(user, ":home") {
			all = append(all, user)
		}
	}
	return all
}

func (m *model) event(v *jsonval.Value) (api.Errno, string) {
	e, errno := room.ReadEvent(v)
	if errno != api.OK {
		return errno, ""
	}
	before := m.room(e.Room)
	if before == nil && len(m.roomNames()) >= 20 {
		return api.ErrRooms, ""
	}
	if before != nil && before.May(e) != api.OK {
		return before.May(e), ""
	}
	all := m.events()
	if slices.ContainsFunc(all, func(h happening) bool { return h.event.ID == e.ID }) {
		return api.ErrKnown, ""
	}
	if len(all) >= 5000 {
		return api.ErrStream, ""
	}
	place := len(all) + 1
	m.log = append(m.log, happening{event: e, place: place})
	behind := m.room(e.Room)
	for _, user := range members(before) {
		if !behind.Is(user) {
			m.log = append(m.log, happening{user: user, room: e.Room, place: place})
		}
	}
	told, said := m.verdicts(behind, e)
	at := slices.IndexFunc(m.log, func(h happening) bool { return h.event == e })
	m.log[at].told = told
	for _, v := range told {
		if v.Actions.Notify {
			unread, _ := m.count(v.User, e.Room)
			m.push(v.User, e.Body, v.Actions, unread)
		}
	}
	return api.OK, `"ok":true,"place":` + strconv.Itoa(place) + `,"told":[` + strings.Join(said, ",") + `]`
}

// verdicts asks each one's rules by themselves.
func (m *model) verdicts(r *room.Room, e *room.Event) (told []api.Verdict, said []string) {
	for _, user := range members(r) {
		if user == e.Sender {
			continue
		}
		a, rule := m.rules(user).Evaluate(r.Facts(e, user))
		told = append(told, api.Verdict{User: user, Rule: rule, Actions: a})
		said = append(said, `{"highlight":`+strconv.FormatBool(a.Highlight)+`,"notify":`+strconv.FormatBool(a.Notify)+
			`,"rule":`+quoted(rule)+`,"sound":`+quoted(a.Sound)+`,"user":`+quoted(user)+`}`)
	}
	return told, said
}

// quoted is a text as it is printed (J2).
func quoted(s string) string { return jsonval.OfText(s).Print() }

func (m *model) receipt(user, name, id string) bool {
	for _, h := range m.events() {
		if h.event.Room == name && h.event.ID == id && h.place > m.mark(user, name) {
			m.log = append(m.log, happening{user: user, room: name, place: h.place})
			return true
		}
	}
	return false
}

// mark is the last place up to which a user has read a room.
func (m *model) mark(user, name string) int {
	last := 0
	for _, h := range m.log {
		if h.event == nil && h.user == user && h.room == name {
			last = max(last, h.place)
		}
	}
	return last
}

func (m *model) takenBack(e happening) bool {
	return slices.ContainsFunc(m.events(), func(h happening) bool {
		return h.place >= e.place && h.event.Room == e.event.Room && h.event.Redacts == e.event.ID
	})
}

// A modelNote is one that is live.
type modelNote struct {
	user, room string
	place      int
	highlight  bool
}

// live are the notes of which P7 speaks: by places.
func (m *model) live() []modelNote {
	var all []modelNote
	for _, h := range m.events() {
		if m.takenBack(h) {
			continue
		}
		for _, v := range h.told {
			if v.Actions.Notify && h.place > m.mark(v.User, h.event.Room) {
				all = append(all, modelNote{v.User, h.event.Room, h.place, v.Actions.Highlight})
			}
		}
	}
	return all
}

func (m *model) count(user, name string) (unread, highlight int) {
	for _, n := range m.live() {
		if n.user == user && n.room == name {
			unread++
			if n.highlight {
				highlight++
			}
		}
	}
	return min(unread, 99), min(highlight, 99)
}

func (m *model) counts(user string, name *jsonval.Value) string {
	if name != nil {
		unread, highlight := m.count(user, name.Text())
		return `"highlight":` + strconv.Itoa(highlight) + `,"ok":true,"unread":` + strconv.Itoa(unread)
	}
	var row []string
	for _, name := range m.roomNames() {
		if m.room(name).Is(user) {
			unread, highlight := m.count(user, name)
			row = append(row, `{"highlight":`+strconv.Itoa(highlight)+`,"room":`+quoted(name)+`,"unread":`+strconv.Itoa(unread)+`}`)
		}
	}
	return `"ok":true,"rooms":[` + strings.Join(row, ",") + `]`
}

// The pushers.

func (m *model) pushersOf(user string) []*modelPusher {
	var row []*modelPusher
	for _, q := range m.posts {
		if q.user == user {
			row = append(row, q)
		}
	}
	return row
}

func (m *model) setPusher(user, key, format string) api.Errno {
	blank := func(sign rune) bool { return sign < 33 || sign > 126 }
	if len(key) < 1 || len(key) > 60 || strings.ContainsFunc(key, blank) || format != "full" && format != "event_id_only" {
		return api.ErrPusher
	}
	row := m.pushersOf(user)
	for _, q := range row {
		if q.key == key {
			q.format = format
			return api.OK
		}
	}
	if len(row) == 4 {
		return api.ErrMany
	}
	m.posts = append(m.posts, &modelPusher{user: user, key: key, format: format})
	slices.SortFunc(m.posts, func(a, b *modelPusher) int {
		return strings.Compare(a.user+" "+a.key, b.user+" "+b.key) // no local user's name, and no key, has a blank or less
	})
	return api.OK
}

func (m *model) removePusher(user, key string) api.Errno {
	for i, q := range m.posts {
		if q.user == user && q.key == key {
			m.posts = slices.Delete(m.posts, i, i+1)
			return api.OK
		}
	}
	return api.ErrNoPusher
}

func (m *model) push(user string, event *jsonval.Value, a api.Actions, unread int) {
	for _, q := range m.pushersOf(user) {
		if len(q.notes) == 8 {
			q.notes = q.notes[1:]
			q.dropped++
			q.attempt = 0
		}
		q.notes = append(q.notes, payloadText(q.format, event, a, unread))
	}
}

func payloadText(format string, event *jsonval.Value, a api.Actions, unread int) string {
	head := `{"counts":{"unread":` + strconv.Itoa(unread) + `},`
	if format == "event_id_only" {
		return head + `"event_id":` + event.Get("event_id").Print() + `,"room_id":` + event.Get("room_id").Print() + `}`
	}
	var tweaks []string
	if a.Highlight {
		tweaks = append(tweaks, `"highlight":true`)
	}
	if a.Sound != "" {
		tweaks = append(tweaks, `"sound":`+quoted(a.Sound))
	}
	return head + `"event":` + event.Print() + `,"tweaks":{` + strings.Join(tweaks, ",") + `}}`
}

func (m *model) printPushers(user string) string {
	var row []string
	for _, q := range m.pushersOf(user) {
		row = append(row, `{"attempt":`+strconv.Itoa(q.attempt)+`,"dropped":`+strconv.Itoa(q.dropped)+`,"failures":`+strconv.Itoa(q.failures)+
			`,"format":"`+q.format+`","key":`+quoted(q.key)+`,"until":`+strconv.Itoa(q.until)+`,"waits":`+strconv.Itoa(len(q.notes))+`}`)
	}
	return "[" + strings.Join(row, ",") + "]"
}

func (m *model) tick(now int64) (api.Errno, string) {
	if now < int64(m.time) || now > 1000000000 {
		return api.ErrTime, ""
	}
	m.time = int(now)
	var row []string
	for _, q := range m.posts {
		if q.attempt == 0 && len(q.notes) > 0 && m.time >= q.until {
			m.tried++
			q.attempt = m.tried
			row = append(row, `{"id":`+strconv.Itoa(m.tried)+`,"key":`+quoted(q.key)+`,"payload":`+quoted(q.notes[0])+`,"user":`+quoted(q.user)+`}`)
		}
	}
	return api.OK, `"attempts":[` + strings.Join(row, ",") + `],"ok":true`
}

func (m *model) reply(attempt int, result string) api.Errno {
	if !slices.Contains([]string{"ok", "fail", "rejected"}, result) {
		return api.ErrArg
	}
	for _, q := range m.posts {
		if attempt == 0 || q.attempt != attempt {
			continue
		}
		q.attempt = 0
		switch result {
		case "ok":
			q.notes, q.failures, q.until = q.notes[1:], 0, 0
		case "fail":
			delays := []int{2, 4, 8, 16, 32, 60}
			q.failures++
			q.until = m.time + delays[min(q.failures, 6)-1]
		case "rejected":
			m.removePusher(q.user, q.key)
		}
		return api.OK
	}
	return api.ErrAttempt
}

// save puts what is saved together, piece by piece.
func (m *model) save() string {
	var rooms, people, stream []string
	for _, name := range m.roomNames() {
		rooms = append(rooms, saidBy(m.room(name).Save))
	}
	slices.SortFunc(m.people, func(a, b *modelPerson) int { return strings.Compare(a.name, b.name) })
	for _, p := range m.people {
		people = append(people, saidText(p.name)+saidBy(p.rules.Save))
	}
	for _, h := range m.events() {
		stream = append(stream, saidText(h.event.Room)+saidText(h.event.ID)+saidTruth(m.takenBack(h)))
	}
	return saidNumber(m.time) + counted(rooms...) + counted(people...) + counted(stream...) + m.saidMarks() + m.saidNotes() + m.saidPost()
}

func (m *model) saidMarks() string {
	var row []happening
	for _, h := range m.log {
		if h.event == nil && h.place == m.mark(h.user, h.room) {
			row = append(row, h)
		}
	}
	slices.SortFunc(row, func(a, b happening) int { return strings.Compare(a.user+" "+a.room, b.user+" "+b.room) })
	row = slices.CompactFunc(row, func(a, b happening) bool { return a.user == b.user && a.room == b.room })
	var said []string
	for _, h := range row {
		said = append(said, saidText(h.user)+saidText(h.room)+saidNumber(h.place))
	}
	return counted(said...)
}

func (m *model) saidNotes() string {
	row := m.live()
	slices.SortStableFunc(row, func(a, b modelNote) int { return strings.Compare(a.user, b.user) })
	var said []string
	for _, n := range row {
		said = append(said, saidText(n.user)+saidNumber(n.place)+saidTruth(n.highlight))
	}
	return counted(said...)
}

func (m *model) saidPost() string {
	var said []string
	for _, q := range m.posts {
		said = append(said, saidPusher(*q))
	}
	return saidNumber(m.tried+1) + counted(said...)
}

func saidPusher(q modelPusher) string {
	var notes []string
	for _, s := range q.notes {
		notes = append(notes, saidText(s))
	}
	return saidText(q.user) + saidText(q.key) + saidTruth(q.format == "full") + counted(notes...) +
		saidNumber(q.failures) + saidNumber(q.until) + saidNumber(q.dropped) + saidNumber(q.attempt)
}

// saidBy is what something writes; saidText, saidNumber, saidTruth and counted are a text, a number, a truth and a list as they are saved.
func saidBy(save func(w *wire.Writer)) string {
	w := wire.NewWriter()
	save(w)
	return string(w.Bytes())
}

func saidText(s string) string { return saidBy(func(w *wire.Writer) { w.Text(s) }) }

func saidNumber(n int) string { return saidBy(func(w *wire.Writer) { w.Int(int64(n)) }) }

func saidTruth(b bool) string { return saidBy(func(w *wire.Writer) { w.Flag(b) }) }

func counted(l ...string) string {
	return saidBy(func(w *wire.Writer) { wire.WriteList(w, l, func(*wire.Writer, string) {}) }) + strings.Join(l, "")
}
