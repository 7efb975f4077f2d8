package house

import (
	"fmt"
	"maps"
	"math/rand"
	"reflect"
	"regexp"
	"slices"
	"strings"
	"testing"
	"unicode/utf8"

	"tocsin/api"
	"tocsin/disk"
	"tocsin/web"
)

// A pair is a house and its model, each on a disk of its own, which are handed the same.
type pair struct {
	testing.TB
	id    int
	disk  *disk.Disk
	house *House
	model *model
	calls []string
	seen  map[string]int // what was answered, and how often
}

func newPair(t testing.TB, id, blocks int) *pair {
	t.Helper()
	p := &pair{TB: t, id: id, disk: formatted(t, blocks), seen: map[string]int{}}
	p.open(p.disk.Copy())
	return p
}

func (p *pair) open(like *disk.Disk) {
	p.Helper()
	var got, want api.Errno
	p.house, got = Open(p.id, p.disk, []byte(secret))
	p.model, want = openModel(p.id, like)
	if got != want || want != api.OK {
		p.fail("M1", "Open", fmt.Sprint(int(got)), fmt.Sprint(int(want)))
	}
	p.hold("Open")
}

func (p *pair) fail(promise, call, got, want string) {
	p.Helper()
	p.Fatalf("%s: house %d: behind\n%s\n%s:\n%s, want\n%s", promise, p.id, strings.Join(p.calls[max(0, len(p.calls)-12):], "\n"), call, got, want)
}

// hold wants that both know the same, and that their disks are alike.
func (p *pair) hold(call string) {
	p.Helper()
	if got, want := p.house.Leads(), p.model.leads(); got != want {
		p.fail("M6: Leads", call, fmt.Sprint(got), fmt.Sprint(want))
	}
	if got := p.house.Orders(); !slices.Equal(got, p.model.orders) {
		p.fail("M7: Orders", call, fmt.Sprintf("%q", got), fmt.Sprintf("%q", p.model.orders))
	}
	p.calls = append(p.calls, call)
	if len(p.calls)%(1+p.disk.Blocks()/4) == 0 { // to look at all of a great disk takes long
		alike(p, call, p.disk, p.model.disk)
	}
}

func (p *pair) check(promise, call string, got, want api.Errno) {
	p.Helper()
	if got != want {
		p.fail(promise, call, fmt.Sprint(int(got)), fmt.Sprint(int(want)))
	}
	p.hold(call)
}

func (p *pair) tick() { p.Helper(); p.check("M6", "Tick", p.house.Tick(), p.model.tick()) }

func (p *pair) hear(l api.Letter) {
	p.Helper()
	copied := l
	copied.Entries = nil
	for _, e := range l.Entries {
		copied.Entries = append(copied.Entries, api.Entry{Term: e.Term, Data: slices.Clone(e.Data)})
	}
	got := p.house.Hear(copied)
	for i := range copied.Entries { // whose it was may write into it
		clear(copied.Entries[i].Data)
		copied.Entries[i].Term = -7
	}
	p.check("M5", fmt.Sprintf("Hear %+v", l), got, p.model.hear(l))
}

func (p *pair) letters() []api.Letter {
	p.Helper()
	got, want := p.house.Letters(), p.model.node.Letters()
	if len(got) != len(want) || len(got) > 0 && !reflect.DeepEqual(got, want) {
		p.fail("M5", "Letters", fmt.Sprintf("%+v", got), fmt.Sprintf("%+v", want))
	}
	p.hold("Letters")
	return want
}

func (p *pair) connect() {
	p.Helper()
	conn, got := p.house.Connect()
	like, want := p.model.connect()
	if conn != like {
		p.fail("M2", "Connect", fmt.Sprint(conn), fmt.Sprint(like))
	}
	p.check("M2", "Connect", got, want)
}

func (p *pair) hangup(conn int) {
	p.Helper()
	p.check("M2", fmt.Sprint("Hangup ", conn), p.house.Hangup(conn), p.model.hangup(conn))
}

func (p *pair) bytes(conn int, s string) {
	p.Helper()
	b := []byte(s)
	got := p.house.Bytes(conn, b)
	if string(b) != s {
		p.fail("P3", "Bytes", string(b), s)
	}
	clear(b)
	p.check("M3", fmt.Sprintf("Bytes %d %.200q", conn, s), got, p.model.bytes(conn, []byte(s)))
}

var aResult = regexp.MustCompile(`"error":\d+|"token"|"whole":\w+|"place"|"attempts"|"changed":\w+|retry-after|x-leader: \d|connection: close|"gone":\["`)

// out gives what went out.
func (p *pair) out(conn int) []byte {
	p.Helper()
	b, ends, got := p.house.Out(conn)
	s, over, want := p.model.out(conn)
	if string(b) != s || ends != over {
		p.fail("M4", fmt.Sprint("Out ", conn), fmt.Sprintf("%q %t", b, ends), fmt.Sprintf("%q %t", s, over))
	}
	clear(b[:cap(b)])
	p.check("M4", fmt.Sprint("Out ", conn), got, want)
	for _, result := range aResult.FindAllString(s, -1) {
		p.seen[result]++
	}
	return []byte(s)
}

// reopen goes on with another house on the same disk, be it that the power has failed or not.
func (p *pair) reopen() {
	p.Helper()
	p.disk.Restart()
	p.model.disk.Restart()
	p.calls = append(p.calls, "Restart")
	p.open(p.model.disk)
}

// A trio is three pairs, the letters that they told, and one who asks.
type trio struct {
	*asker
	pairs []*pair
	post  []api.Letter
}

func newTrio(t testing.TB, seed int64, blocks int) *trio {
	s := &trio{asker: newAsker(rand.New(rand.NewSource(seed)))}
	for id := range 3 {
		p := newPair(t, id, blocks)
		for range 3 {
			p.connect()
		}
		s.pairs = append(s.pairs, p)
	}
	return s
}

// some is a pair, most likely one that leads.
func (s *trio) some() *pair {
	for _, p := range s.pairs {
		if p.model.leads() && s.chance(93) {
			return p
		}
	}
	return s.pairs[s.rnd.Intn(3)]
}

func (s *trio) conn(p *pair) int {
	open := slices.Sorted(maps.Keys(p.model.conns))
	if len(open) == 0 || s.chance(2) {
		return s.rnd.Intn(12) - 1
	}
	return open[s.rnd.Intn(len(open))]
}

// carry lets letters come, in their order; some are lost, doubled, or come late.
func (s *trio) carry() {
	for range 8 {
		for _, p := range s.pairs {
			s.post = append(s.post, p.letters()...)
		}
		for _, l := range s.post {
			if s.chance(95) {
				s.pairs[l.To].hear(l)
			}
			if s.chance(3) {
				s.pairs[l.To].hear(l)
			}
		}
		s.post = s.post[:0]
	}
}

// ask lets a client of a house ask for something, or for so many things.
func (s *trio) ask(times int) {
	p := s.some()
	conn := s.conn(p)
	if c := p.model.conns[conn]; c != nil && c.ended && s.chance(70) {
		p.hangup(conn)
		p.connect()
		conn = s.conn(p)
	}
	text := ""
	for range times {
		text += s.request()
	}
	for len(text) > 0 {
		n := len(text)
		if s.chance(20) {
			n = 1 + s.rnd.Intn(n)
		}
		p.bytes(conn, text[:n])
		text = text[n:]
		if s.chance(1) {
			break // the rest never comes, or something else does
		}
	}
}

// madeUp is a letter that no house would write: all sorts of data, agreed on or not, in a later term or in this one.
func (s *trio) madeUp(p *pair) {
	_, term := p.model.node.Leader()
	log := p.model.node.Log()
	l := api.Letter{From: (p.id + 1 + s.rnd.Intn(2)) % 3, To: p.id, Kind: api.Append, Term: max(1, term+s.rnd.Intn(2))}
	l.Index = max(0, len(log)-s.rnd.Intn(4))
	if l.Index > 0 {
		l.Before = log[l.Index-1].Term
	}
	l.Agreed = min(400, l.Index+s.rnd.Intn(4))
	for range s.rnd.Intn(4) {
		data := s.one("", "x", "[]", `{"body":"","method":"GET","target":"/v1/login","token":null}`, ordered("GET", "/v1/counts", s.tokenOf(s.user()), ""), ordered("POST", "/v1/login", "", loginBody(s.user())), `{"zz":[],"body":"","method":"GET","target":"/","token":""}`)
		l.Entries = append(l.Entries, api.Entry{Term: max(1, l.Before), Data: []byte(data)})
	}
	p.hear(l)
}

func waysToFail() []api.Crash {
	return []api.Crash{{Keep: 0}, {Keep: 9}, {Keep: 0, Torn: 3}, {Keep: 1}, {Keep: 1, Torn: 30}, {Keep: 2, Torn: 8}}
}

// fall lets the power of a pair fail, at once or in a while.
func (s *trio) fall(p *pair) {
	how := waysToFail()[s.rnd.Intn(len(waysToFail()))]
	if s.chance(50) {
		p.disk.Crash(how)
		p.model.disk.Crash(how)
		p.hold(fmt.Sprint("Crash ", how))
		return
	}
	writes := s.rnd.Intn(8)
	p.disk.Fuse(writes, how)
	p.model.disk.Fuse(writes, how)
	p.hold(fmt.Sprint("Fuse ", writes, how))
}

// begin lets one lead, and users have tokens.
func (s *trio) begin() {
	for range 12 {
		s.round()
	}
	p := s.some()
	for _, user := range []string{anna, bea, "@d:home", away, clock, usher} {
		p.bytes(1, asking("POST", "/v1/login", "", loginBody(user)))
		s.round()
	}
	s.learn(p.out(1))
}

// step does one thing by chance; made: also letters that nobody told.
func (s *trio) step(made bool) {
	p := s.some()
	if s.chance(25) {
		p = s.pairs[s.rnd.Intn(3)]
	}
	if !p.disk.Alive() && s.chance(30) {
		p.reopen()
	}
	switch n := s.rnd.Intn(1000); {
	case n < 350:
		s.ask(1)
	case n < 420:
		s.ask(1 + s.rnd.Intn(4))
	case n < 425:
		s.ask(40)
	case n < 600:
		s.carry()
	case n < 760:
		s.round()
	case n < 930:
		s.learn(p.out(s.conn(p)))
	case n < 960:
		p.connect()
	case n < 980:
		p.hangup(s.conn(p))
	case n < 984 && made:
		s.madeUp(p)
	case n < 990:
		s.fall(p)
	case n < 992:
		p.reopen()
	default:
		for range s.rnd.Intn(15) { // it may come to stand
			p.tick()
		}
	}
}

// round is a tick of all.
func (s *trio) round() {
	for _, p := range s.pairs {
		p.tick()
	}
	s.carry()
}

// all lets all go out that can.
func (s *trio) all() {
	for range 3 {
		s.round()
	}
	for _, p := range s.pairs {
		for _, conn := range slices.Sorted(maps.Keys(p.model.conns)) {
			s.learn(p.out(conn))
		}
	}
}

// TestRowsByChance: three houses whose letters are lost, doubled and late, which fall and come again, on disks that are too small and on such as are not; each call is held against the model.
func TestRowsByChance(t *testing.T) { // M1 to M7, P2 to P4
	t.Parallel()
	for _, blocks := range []int{60, 300, 3000} {
		for part := range int64(3) {
			t.Run(fmt.Sprint(blocks, "/", part), func(t *testing.T) {
				t.Parallel()
				seen := map[string]int{}
				for seed := range int64(12) {
					s := newTrio(t, 1000*int64(blocks)+100*part+seed, blocks)
					s.begin()
					for i := range 900 {
						s.step(part == 0)
						if i%30 == 29 {
							s.all()
						}
					}
					for _, p := range s.pairs {
						alike(t, "in the end", p.disk, p.model.disk)
						for result, n := range p.seen {
							seen[result] += n
						}
					}
				}
				var little []string
				for _, result := range []string{`"error":10`, `"error":170`, `"error":182`, `"error":180`, `"error":191`, `"error":210`, `"error":211`, `"error":140`, `"error":41`, `"token"`, "connection: close", "x-leader: 0"} {
					if seen[result] == 0 {
						little = append(little, result)
					}
				}
				for _, result := range []string{`"error":90`, `"error":91`, `"error":92`, `"error":110`, `"error":141`, `"error":171`, `"error":172`, `"error":173`, `"error":190`, `"error":200`, `"whole":true`, `"whole":false`, `"place"`, `"attempts"`, `"changed":true`, "retry-after", `"gone":["`} {
					if blocks > 1000 && seen[result] == 0 {
						little = append(little, result)
					}
				}
				t.Log(seen)
				if len(little) > 0 {
					t.Errorf("what never happened: %q", little)
				}
			})
		}
	}
}

// TestMachinesByChance: long rows of orders, on machines without houses.
func TestMachinesByChance(t *testing.T) { // the machine
	t.Parallel()
	for seed := range int64(8) {
		t.Run(fmt.Sprint(seed), func(t *testing.T) {
			t.Parallel()
			a := newAsker(rand.New(rand.NewSource(seed)))
			m, _ := newMachine([]byte(secret))
			like := newPlainMachine()
			seen := map[string]int{}
			for range 4000 {
				requests, _ := web.NewParser().Feed([]byte(a.plain()))
				if len(requests) == 0 || !utf8.Valid(requests[0].Body) {
					continue
				}
				text := orderOf(requests[0]).print()
				answer := holdOrder(t, m, like, text)
				a.learn(answer)
				for _, result := range aResult.FindAllString(string(answer), -1) {
					seen[result]++
				}
			}
			t.Log(seen)
			for _, result := range []string{`"error":90`, `"error":91`, `"error":92`, `"error":110`, `"error":140`, `"error":141`, `"error":170`, `"error":171`, `"error":172`, `"error":173`, `"error":190`, `"error":191`, `"error":200`, `"token"`, `"whole":true`, `"whole":false`, `"place"`, `"attempts"`, `"changed":true`, "retry-after", `"gone":["`} {
				if seen[result] == 0 {
					t.Errorf("%s never happened", result)
				}
			}
		})
	}
}

// holdOrder wants that a machine does as the plain one, and gives what it answers, printed; nothing, if it was no order.
func holdOrder(t testing.TB, m *machine, like *plainMachine, data string) []byte {
	t.Helper()
	o, ok := readOrder([]byte(data))
	want, isOrder := like.do(data)
	if ok != isOrder {
		t.Fatalf("%.300q is an order: %t, want %t", data, ok, isOrder)
	}
	if !ok {
		return nil
	}
	got, errno := web.PrintResponse(m.do(o))
	if errno != api.OK || string(got) != want.print(false) {
		t.Fatalf("%.600s: %q, error %d, want %q", data, got, errno, want.print(false))
	}
	return got
}

// A reel gives pieces off bytes.
type reel []byte

func (r *reel) next() int {
	if len(*r) == 0 {
		return 0
	}
	n := (*r)[0]
	*r = (*r)[1:]
	return int(n)
}

// cut gives so many of the next bytes, if there are so many.
func (r *reel) cut(n int) string {
	n = min(n, len(*r))
	s := string((*r)[:n])
	*r = (*r)[n:]
	return s
}

func FuzzOrders(f *testing.F) { // the machine
	f.Add("POST", "/v1/login", `{"proof":"x","user":"@a:home"}`, "", []byte("{}"))
	f.Add("GET", "/v1/feed?since=1", "", "", []byte(`{"body":"","method":"","target":"","token":""}`))
	f.Add("PUT", "/v1/events", member("$1", "!r:home", anna, "join"), "", []byte(ordered("POST", "/v1/login", "", "{}")))
	f.Add("POST", "/v1/logout", "x", "x", []byte(`{"body":"","method":"GET","target":"/v1/login","token":"","x":[1]}`))
	f.Add("POST", "/v1/tick", "7", "", []byte(`[]`))
	f.Fuzz(func(t *testing.T, method, target, body, token string, data []byte) {
		m, _ := newMachine([]byte(secret))
		like := newPlainMachine()
		for _, user := range []string{anna, clock, usher} {
			s := holdOrder(t, m, like, ordered("POST", "/v1/login", "", loginBody(user)))
			known := string(aToken.FindSubmatch(s)[1])
			for _, token := range []string{known, token, known} {
				holdOrder(t, m, like, order{body, method, target, token}.print())
			}
			holdOrder(t, m, like, string(data))
			holdOrder(t, m, like, ordered("GET", "/v1/feed", known, ""))
		}
	})
}

func FuzzBytes(f *testing.F) { // M2 to M4
	f.Add([]byte("\x00\x40" + asking("GET", "/v1/counts", "x", "") + "\x02\x03"))
	f.Add([]byte("\x00\xff" + asking("POST", "/v1/login", "", loginBody(anna)) + asLast(asking("GET", "/", "", "")) + "\x02\x03\x00\x05hello\x03"))
	f.Add([]byte("\x01\x04\x00\x20GET / HTTP/1.1\r\nhost: x\r\n\r\nGET \x01\x00\x10/ HTTP/1.0\r\n\r\n  \x02\x03\x05\x01\x01\x03"))
	f.Add([]byte("\x00\x20GET / HTTP/1.0\r\n\r\nGET / HTTP/1.0\x02\x06\x07\x00\x20GET / HTTP/1.1\r\nhost: x\r\n\r\nGET \x02\x03\x04"))
	f.Fuzz(func(t *testing.T, bytes []byte) {
		p := newPair(t, 0, 200)
		for range 10 {
			p.tick()
		}
		p.hear(api.Letter{From: 1, To: 0, Kind: api.Vote, Term: 1, Yes: true})
		p.connect()
		p.connect()
		conn := 1
		r := reel(bytes[:min(len(bytes), 3000)])
		for len(r) > 0 {
			switch r.next() % 8 {
			case 0:
				p.bytes(conn, r.cut(r.next()))
			case 1:
				conn = r.next() % 11
			case 2:
				for _, l := range p.letters() {
					p.hear(api.Letter{From: l.To, To: 0, Kind: api.Answer, Term: l.Term, Yes: true, Index: l.Index + len(l.Entries)})
				}
			case 3:
				p.out(conn)
			case 4:
				p.connect()
			case 5:
				p.hangup(conn)
			case 6:
				p.tick()
			default:
				p.bytes(conn, asking("GET", "/v1/"+fmt.Sprint(r.next()), "", r.cut(r.next())))
			}
		}
		for conn := range 11 {
			p.out(conn)
		}
	})
}
