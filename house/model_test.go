package house

import (
	"crypto/hmac"
	"crypto/sha256"
	"encoding/hex"
	"errors"
	"fmt"
	"net/http"
	"regexp"
	"slices"
	"strings"
	"unicode/utf8"

	"tocsin/api"
	"tocsin/disk"
	"tocsin/engine"
	"tocsin/feed"
	"tocsin/jsonval"
	"tocsin/quorum"
	"tocsin/route"
	"tocsin/session"
	"tocsin/web"
)

// A reply is a response, but for whether it is the last one.
type reply struct {
	body, more string // more: a line of the head
}

var statuses = map[int]int{
	170: 401, 171: 401, 172: 401, 84: 403, 91: 403, 2: 404, 82: 404, 112: 404, 131: 404, 132: 404, 190: 404, 220: 404, 191: 405, 110: 409, 141: 409, 200: 410,
	22: 413, 182: 413, 83: 429, 93: 429, 111: 429, 142: 429, 143: 429, 173: 429, 181: 431, 183: 501, 41: 503, 150: 503, 151: 503, 210: 503, 211: 503, 184: 505, 51: 507,
}

var isError = regexp.MustCompile(`^\{"error":(\d+)\}$`)

func (r reply) status() int {
	status := 200
	if m := isError.FindStringSubmatch(r.body); m != nil {
		var n int
		fmt.Sscan(m[1], &n)
		if status = statuses[n]; status == 0 {
			status = 400
		}
	}
	return status
}

func (r reply) print(last bool) string {
	end := ""
	if last {
		end = "connection: close\r\n"
	}
	reason := http.StatusText(r.status())
	if r.status() == 413 {
		reason = "Content Too Large"
	}
	return fmt.Sprintf("HTTP/1.1 %d %s\r\ncontent-type: application/json\r\n%scontent-length: %d\r\n%s\r\n%s", r.status(), reason, r.more, len(r.body), end, r.body)
}

func refusal[N api.Errno | int](errno N) reply {
	return reply{body: fmt.Sprintf(`{"error":%d}`, int(errno))}
}

// A plainMachine does orders in the words of the chapter.
type plainMachine struct {
	engine *engine.Engine
	keeper *session.Keeper
	hub    *feed.Hub
	guests map[string]bool
	now    int
}

func newPlainMachine() *plainMachine {
	k, _ := session.New([]byte(secret), 1000, 20, 2)
	return &plainMachine{engine: engine.New(), keeper: k, hub: feed.New(), guests: map[string]bool{}}
}

// do is what an entry's data do; false: they are no order.
func (m *plainMachine) do(data string) (reply, bool) {
	v, err := jsonval.Parse([]byte(data))
	if err != nil || v.Kind() != jsonval.Object {
		return reply{}, false
	}
	for _, name := range []string{"body", "method", "target", "token"} {
		if v.Get(name).Kind() != jsonval.Text {
			return reply{}, false
		}
	}
	return m.obey(v.Get("method").Text(), v.Get("target").Text(), v.Get("body").Text(), v.Get("token").Text()), true
}

func (m *plainMachine) obey(method, target, body, token string) reply {
	if target == "/v1/login" { // 1
		return m.login(method, body)
	}
	who, errno := m.keeper.Check(token, m.now) // 2
	if errno != 0 {
		return refusal(errno)
	}
	if target == "/v1/logout" { // 3
		if method != "POST" {
			return refusal(191)
		}
		m.keeper.Revoke(token, m.now)
		return reply{body: `{"ok":true}`}
	}
	if ok, ticks := m.keeper.Allow(who, m.now); !ok { // 4
		r := refusal(173)
		r.more = fmt.Sprintf("retry-after: %d\r\n", ticks)
		return r
	}
	const since = "/v1/feed?since="
	if target == "/v1/feed" || len(target) >= len(since) && target[:len(since)] == since { // 5
		if method != "GET" {
			return refusal(191)
		}
		place := ""
		if target != "/v1/feed" {
			place = target[len(since):]
		}
		return m.feed(who, place)
	}
	return m.command(who, api.Request{Method: method, Target: target, Body: []byte(body)}) // 6
}

var isUser = regexp.MustCompile(`^@[a-z0-9._=/-]+:[a-z0-9.-]+$`)

func (m *plainMachine) login(method, body string) reply {
	if method != "POST" {
		return refusal(191)
	}
	v, err := jsonval.Parse([]byte(body))
	if err != nil || v.Kind() != jsonval.Object || v.Get("user").Kind() != jsonval.Text || v.Get("proof").Kind() != jsonval.Text {
		return refusal(140)
	}
	user := v.Get("user").Text()
	if !isUser.MatchString(user) || len(user) > 60 {
		return refusal(92)
	}
	mac := hmac.New(sha256.New, []byte(secret))
	fmt.Fprintf(mac, "login %s", user)
	if hex.EncodeToString(mac.Sum(nil)) != v.Get("proof").Text() {
		return refusal(170)
	}
	token, errno := m.keeper.Issue(user, m.now)
	if errno != 0 {
		return refusal(errno)
	}
	m.guests[user] = true
	return reply{body: fmt.Sprintf(`{"ok":true,"token":"%s"}`, token)}
}

func (m *plainMachine) feed(who, place string) reply {
	changed, gone, whole, next, errno := m.hub.Since(who, place)
	if errno != 0 {
		return refusal(errno)
	}
	var counts, rooms []string
	for _, c := range changed {
		counts = append(counts, fmt.Sprintf(`{"highlight":%d,"room":"%s","unread":%d}`, c.Highlight, c.Room, c.Unread))
	}
	for _, room := range gone {
		rooms = append(rooms, `"`+room+`"`)
	}
	return reply{body: fmt.Sprintf(`{"changed":[%s],"gone":[%s],"next":"%s","ok":true,"whole":%t}`, strings.Join(counts, ","), strings.Join(rooms, ","), next, whole)}
}

func (m *plainMachine) command(who string, r api.Request) reply {
	command, errno := route.Command(r, who)
	if errno != 0 {
		return refusal(errno)
	}
	do := command.Get("do").Text()
	sender := command.Get("event").Get("sender")
	if do == "event" && (sender.Kind() != jsonval.Text || sender.Text() != who) ||
		(do == "tick" || do == "rotate") && who != clock || do == "reply" && who != usher {
		return refusal(91)
	}
	answer := m.engine.Do(command)
	if do == "tick" && answer.Get("error") == nil {
		m.now = int(command.Get("now").Number())
	}
	if !slices.Contains([]string{"rules", "counts", "pushers", "room"}, do) {
		m.putAll()
	}
	return reply{body: answer.Print()}
}

func (m *plainMachine) putAll() {
	var guests []string
	for guest := range m.guests {
		guests = append(guests, guest)
	}
	slices.Sort(guests)
	for _, guest := range guests {
		var sheet []api.Count
		if strings.HasSuffix(guest, ":home") {
			command, err := jsonval.Parse([]byte(`{"do":"counts","user":"` + guest + `"}`))
			if err != nil {
				panic(err)
			}
			rooms := m.engine.Do(command).Get("rooms")
			for i := range rooms.Len() {
				one := rooms.Item(i)
				sheet = append(sheet, api.Count{Room: one.Get("room").Text(), Unread: int(one.Get("unread").Number()), Highlight: int(one.Get("highlight").Number())})
			}
		}
		m.hub.Put(guest, sheet)
	}
}

// An asked is a request that came over a connection, and, when it does not wait any more, its reply.
type asked struct {
	place, term int
	waits       bool
	reply       reply
}

type modelConn struct {
	came  []byte // all of it
	asked []*asked
	ended bool
	sent  int
}

// A model is a house in the words of the chapter, on a node and a disk of its own.
type model struct {
	id      int
	disk    *disk.Disk
	node    *quorum.Node
	machine *plainMachine
	orders  []string
	conns   map[int]*modelConn
	given   int
}

func openModel(id int, d *disk.Disk) (*model, api.Errno) {
	n, errno := quorum.Open(id, d)
	if errno != 0 {
		return nil, errno
	}
	return &model{id: id, disk: d, node: n, machine: newPlainMachine(), conns: map[int]*modelConn{}}, 0
}

func (m *model) connect() (int, api.Errno) {
	if len(m.conns) == 8 {
		return 0, api.ErrBusy
	}
	m.given++
	m.conns[m.given] = &modelConn{}
	return m.given, 0
}

func (m *model) hangup(conn int) api.Errno {
	if _, ok := m.conns[conn]; !ok {
		return 220
	}
	delete(m.conns, conn)
	return 0
}

// bytes reads all that ever came over the connection, and handles what is new.
func (m *model) bytes(conn int, b []byte) api.Errno {
	c, ok := m.conns[conn]
	if !ok || c.ended {
		return 220
	}
	c.came = append(c.came, b...)
	requests, err := web.NewParser().Feed(c.came)
	for _, r := range requests[len(c.asked):] {
		c.asked = append(c.asked, m.handle(r))
		c.ended = c.ended || r.Last
	}
	var fault *api.Fault
	if errors.As(err, &fault) {
		c.asked = append(c.asked, &asked{reply: refusal(fault.Err)})
		c.ended = true
	}
	m.settle()
	return 0
}

func (m *model) handle(r api.Request) *asked {
	token := ""
	for i := len(r.Headers) - 1; i >= 0; i-- {
		if r.Headers[i][0] != "authorization" {
			continue
		}
		token = ""
		if value := r.Headers[i][1]; len(value) >= 7 && value[:7] == "Bearer " {
			token = value[7:]
		}
	}
	if !utf8.Valid(r.Body) {
		return &asked{reply: refusal(10)}
	}
	order := jsonval.OfMap(map[string]*jsonval.Value{"method": jsonval.OfText(r.Method), "target": jsonval.OfText(r.Target), "body": jsonval.OfText(string(r.Body)), "token": jsonval.OfText(token)}).Print()
	if len(order) > 4096 {
		return &asked{reply: refusal(182)}
	}
	place, term, errno := m.node.Propose([]byte(order))
	if errno == 0 {
		return &asked{place: place, term: term, waits: true}
	}
	a := &asked{reply: refusal(errno)}
	if leader, _ := m.node.Leader(); leader != -1 {
		a.reply.more = fmt.Sprintf("x-leader: %d\r\n", leader)
	}
	return a
}

func (m *model) settle() {
	for _, e := range m.node.Agreed() {
		m.orders = append(m.orders, string(e.Data))
		r, ok := m.machine.do(string(e.Data))
		for _, c := range m.conns {
			for _, a := range c.asked {
				if !a.waits || a.place != len(m.orders) {
					continue
				}
				a.waits, a.reply = false, refusal(210)
				if a.term == e.Term && ok {
					a.reply = r
				}
			}
		}
	}
}

func (m *model) out(conn int) (string, bool, api.Errno) {
	c, ok := m.conns[conn]
	if !ok {
		return "", false, 220
	}
	s := ""
	for c.sent < len(c.asked) && !c.asked[c.sent].waits {
		last := c.ended && c.sent == len(c.asked)-1
		s += c.asked[c.sent].reply.print(last)
		c.sent++
	}
	return s, c.ended && c.sent == len(c.asked), 0
}

func (m *model) hear(l api.Letter) api.Errno {
	errno := m.node.Hear(l)
	m.settle()
	return errno
}

func (m *model) tick() api.Errno {
	errno := m.node.Tick()
	m.settle()
	return errno
}

func (m *model) leads() bool {
	leader, _ := m.node.Leader()
	return leader == m.id
}
