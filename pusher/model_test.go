package pusher

import (
	"math"
	"slices"
	"strconv"
	"strings"

	"tocsin/api"
	"tocsin/jsonval"
	"tocsin/wire"
)

// A model has its pushers in the order in which they were set, and puts them in order when it is asked.
type model struct {
	list  []*modelPusher
	tried int // how many attempts there were
}

type modelPusher struct {
	user, key, format                 string
	notes                             []string
	failures, until, dropped, attempt int
}

// ahead tells whether a text stands ahead of another one, byte by byte.
func ahead(a, b string) bool {
	for i := 0; i < len(a) && i < len(b); i++ {
		if a[i] != b[i] {
			return a[i] < b[i]
		}
	}
	return len(a) < len(b)
}

func (m *model) ordered() []*modelPusher {
	var row []*modelPusher
	for _, q := range m.list {
		at := 0
		for at < len(row) && (ahead(row[at].user, q.user) || row[at].user == q.user && ahead(row[at].key, q.key)) {
			at++
		}
		row = slices.Insert(row, at, q)
	}
	return row
}

func (m *model) ofUser(user string) []*modelPusher {
	var row []*modelPusher
	for _, q := range m.ordered() {
		if q.user == user {
			row = append(row, q)
		}
	}
	return row
}

// drop takes out those of which gone is true, and tells whether there were any.
func (m *model) drop(gone func(q *modelPusher) bool) bool {
	before := len(m.list)
	m.list = slices.DeleteFunc(m.list, gone)
	return len(m.list) < before
}

func wellNamed(user, key string) bool {
	for i := range len(key) {
		if key[i] < 33 || key[i] > 126 {
			return false
		}
	}
	return len(user) <= 60 && len(key) >= 1 && len(key) <= 60
}

func (m *model) set(user, key, format string) api.Errno {
	if !wellNamed(user, key) || !slices.Contains([]string{"full", "event_id_only"}, format) {
		return api.ErrPusher
	}
	row := m.ofUser(user)
	for _, q := range row {
		if q.key == key {
			q.format = format
			return api.OK
		}
	}
	if len(row) >= 4 {
		return api.ErrMany
	}
	m.list = append(m.list, &modelPusher{user: user, key: key, format: format})
	return api.OK
}

func (m *model) remove(user, key string) api.Errno {
	if m.drop(func(q *modelPusher) bool { return q.user == user && q.key == key }) {
		return api.OK
	}
	return api.ErrNoPusher
}

// quoted is a text as it is printed (J2).
func quoted(s string) string { return jsonval.OfText(s).Print() }

// told is a payload, put together from texts.
func told(format string, event *jsonval.Value, a api.Actions, unread int) string {
	unread = min(max(unread, -9007199254740991), 9007199254740991)
	head := `{"counts":{"unread":` + strconv.Itoa(unread) + `},`
	if format == "event_id_only" {
		names := []string{"", ""}
		for i, key := range []string{"event_id", "room_id"} {
			if v := event.Get(key); v.Kind() == jsonval.Text {
				names[i] = v.Text()
			}
		}
		return head + `"event_id":` + quoted(names[0]) + `,"room_id":` + quoted(names[1]) + `}`
	}
	var tweaks []string
	if a.Highlight {
		tweaks = append(tweaks, `"highlight":true`)
	}
	if len(a.Sound) > 0 {
		tweaks = append(tweaks, `"sound":`+quoted(a.Sound))
	}
	return head + `"event":` + event.Print() + `,"tweaks":{` + strings.Join(tweaks, ",") + `}}`
}

func (m *model) push(user string, event *jsonval.Value, a api.Actions, unread int) {
	for _, q := range m.ofUser(user) {
		if len(q.notes) == 8 {
			q.notes = q.notes[1:]
			q.dropped = min(q.dropped+1, 1000000000)
			q.attempt = 0
		}
		q.notes = append(q.notes, told(q.format, event, a, unread))
	}
}

func (m *model) tick(now int) []api.Attempt {
	var row []api.Attempt
	for _, q := range m.ordered() {
		if q.attempt == 0 && len(q.notes) > 0 && now >= q.until && m.tried < 9007199254740991 {
			m.tried++
			q.attempt = m.tried
			row = append(row, api.Attempt{ID: m.tried, User: q.user, Key: q.key, Payload: q.notes[0]})
		}
	}
	return row
}

// delayOf has a list of the delays; all later ones are as the last.
func delayOf(failures int) int {
	delays := []int{2, 4, 8, 16, 32, 60}
	return delays[min(failures, len(delays))-1]
}

func (m *model) reply(attempt int, result string, now int) api.Errno {
	if result != "ok" && result != "rejected" && (result != "fail" || now < 0 || now > 1000000000) {
		return api.ErrArg
	}
	for _, q := range m.list {
		if q.attempt != attempt || attempt == 0 {
			continue
		}
		q.attempt = 0
		switch result {
		case "ok":
			q.notes, q.failures, q.until = q.notes[1:], 0, 0
		case "fail":
			q.failures = min(q.failures+1, 1000000000)
			q.until = now + delayOf(q.failures)
		case "rejected":
			m.drop(func(x *modelPusher) bool { return x == q })
		}
		return api.OK
	}
	return api.ErrAttempt
}

func (m *model) print(user string) string {
	var row []string
	for _, q := range m.ofUser(user) {
		row = append(row, `{"attempt":`+strconv.Itoa(q.attempt)+`,"dropped":`+strconv.Itoa(q.dropped)+`,"failures":`+strconv.Itoa(q.failures)+
			`,"format":"`+q.format+`","key":`+quoted(q.key)+`,"until":`+strconv.Itoa(q.until)+`,"waits":`+strconv.Itoa(len(q.notes))+`}`)
	}
	return "[" + strings.Join(row, ",") + "]"
}

func (m *model) save() string {
	var row []string
	for _, q := range m.ordered() {
		row = append(row, saidPusher(q.user, q.key, q.format == "full", q.notes, int64(q.failures), int64(q.until), int64(q.dropped), int64(q.attempt)))
	}
	return saidNumber(int64(m.tried)+1) + counted(row...)
}

// modelLoad goes by the words of U7, one behind the other; nil, if bytes are refused.
func modelLoad(bytes string) *model {
	r := wire.NewReader([]byte(bytes))
	next := r.Int()
	m := &model{tried: int(next) - 1}
	m.list = wire.ReadList(r, 1000000, func(r *wire.Reader) *modelPusher {
		q := &modelPusher{format: "event_id_only"}
		q.user = r.Text()
		q.key = r.Text()
		if r.Flag() {
			q.format = "full"
		}
		q.notes = wire.ReadList(r, 8, func(r *wire.Reader) string { return r.Text() })
		for _, n := range []*int{&q.failures, &q.until, &q.dropped, &q.attempt} {
			*n = int(r.Int())
		}
		return q
	})
	if r.Err() != nil || next < 1 || next > 9007199254740992 || !slices.Equal(m.list, m.ordered()) {
		return nil
	}
	for i, q := range m.list {
		if !wellNamed(q.user, q.key) || len(m.ofUser(q.user)) > 4 || q.attempt < 0 || q.attempt >= int(next) || q.attempt > 0 && len(q.notes) == 0 {
			return nil
		}
		if slices.ContainsFunc([]int{q.failures, q.dropped, (q.until + 1) / 2}, func(n int) bool { return n < 0 || n > 1000000000 }) || q.until < 0 || q.until == math.MaxInt {
			return nil
		}
		for _, other := range m.list[:i] {
			if other.user == q.user && other.key == q.key || other.attempt == q.attempt && q.attempt != 0 {
				return nil
			}
		}
	}
	return m
}

// saidText, saidNumber, saidTruth and counted are a text, a number, a truth and a list as they are saved.
func saidText(s string) string {
	w := wire.NewWriter()
	w.Text(s)
	return string(w.Bytes())
}

func saidNumber(n int64) string {
	w := wire.NewWriter()
	w.Int(n)
	return string(w.Bytes())
}

func saidTruth(b bool) string {
	w := wire.NewWriter()
	w.Flag(b)
	return string(w.Bytes())
}

func counted(l ...string) string {
	w := wire.NewWriter()
	wire.WriteList(w, l, func(*wire.Writer, string) {})
	return string(w.Bytes()) + strings.Join(l, "")
}

// saidPusher is a pusher as it is saved.
func saidPusher(user, key string, full bool, notes []string, failures, until, dropped, attempt int64) string {
	var row []string
	for _, s := range notes {
		row = append(row, saidText(s))
	}
	return saidText(user) + saidText(key) + saidTruth(full) + counted(row...) + saidNumber(failures) + saidNumber(until) + saidNumber(dropped) + saidNumber(attempt)
}
