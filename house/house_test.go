package house

import (
	"bytes"
	"fmt"
	"reflect"
	"slices"
	"strings"
	"testing"

	"tocsin/api"
	"tocsin/disk"
	"tocsin/journal"
	"tocsin/quorum"
)

func TestFormat(t *testing.T) { // M1
	d, like := blank(t, 50), blank(t, 50)
	same(t, "M1: Format", Format(d), quorum.Format(like))
	alike(t, "M1: Format", d, like)
	h := opened(t, 0, d)
	for range 10 {
		h.Tick()
	}
	quorum.Format(like)
	same(t, "M1: Format once more", Format(d), api.OK)
	n, errno := quorum.Open(0, d)
	if errno != api.OK {
		t.Fatalf("A1: Open: error %d", errno)
	}
	if _, term := n.Leader(); term != 0 {
		t.Errorf("M1: the term %d behind Format", term)
	}
	d.Crash(api.Crash{})
	same(t, "M1: Format of a disk without power", Format(d), api.ErrDead)
}

func TestOpen(t *testing.T) { // M1
	broken := formatted(t, 100)
	j, _, _, _ := journal.Open(broken)
	j.Append([]byte("no record of a node"))
	dead := formatted(t, 100)
	dead.Crash(api.Crash{})
	for _, k := range []struct {
		what    string
		id, key int
		disk    *disk.Disk
		want    api.Errno
	}{
		{"ordinary", 0, 32, formatted(t, 100), api.OK},
		{"the shortest key", 1, 16, formatted(t, 100), api.OK},
		{"the longest key", 2, 64, formatted(t, 100), api.OK},
		{"too short", 0, 15, formatted(t, 100), api.ErrArg},
		{"no key", 0, 0, formatted(t, 100), api.ErrArg},
		{"too long", 0, 65, formatted(t, 100), api.ErrArg},
		{"id -1", -1, 16, formatted(t, 100), api.ErrArg},
		{"id 3", 3, 16, formatted(t, 100), api.ErrArg},
		{"a great id", 1 << 62, 16, formatted(t, 100), api.ErrArg},
		{"both", 3, 15, formatted(t, 100), api.ErrArg},
		{"no format", 0, 16, blank(t, 100), api.ErrFormat},
		{"no format, a wrong key", 0, 15, blank(t, 100), api.ErrArg},
		{"no format, a wrong id", 3, 16, blank(t, 100), api.ErrArg},
		{"dead", 0, 16, dead, api.ErrDead},
		{"dead, a wrong key", 0, 65, dead, api.ErrArg},
		{"dead, a wrong id", -1, 64, dead, api.ErrArg},
		{"broken", 0, 16, broken, api.ErrBroken},
		{"broken, a wrong key", 0, 15, broken, api.ErrArg},
	} {
		like := k.disk.Copy()
		h, errno := Open(k.id, k.disk, make([]byte, k.key))
		if errno != k.want || (h != nil) != (errno == api.OK) {
			t.Errorf("M1, P2: %s: a house %t, error %d, want %d", k.what, h != nil, errno, k.want)
		}
		if _, errno := Open(k.id, k.disk, nil); errno != api.ErrArg {
			t.Errorf("M1: %s, with nil as the key: error %d", k.what, errno)
		}
		alike(t, "M1: Open: "+k.what, k.disk, like)
		if h == nil {
			continue
		}
		if orders, letters := h.Orders(), h.Letters(); len(orders) != 0 || len(letters) != 0 || h.Leads() {
			t.Errorf("M1: %s: %q, %v", k.what, orders, letters)
		}
		conn, errno := h.Connect()
		same(t, "M1, M2: the first connection", conn, 1)
		same(t, "M1, M2: the first connection", errno, api.OK)
	}
}

// TestTheKeyIsTheHouses: it is not kept as it was handed in.
func TestTheKeyIsTheHouses(t *testing.T) { // M1, P3
	d := newDesk(t)
	key := []byte(secret)
	h, errno := Open(0, d.disk.Copy(), key)
	same(t, "M1: Open", errno, api.OK)
	clear(key)
	d.House = h
	d.elect()
	d.play()
	d.conn = d.connect()
	token := d.login(anna)
	same(t, "P3: behind a change of the key", d.ask("GET", "/v1/counts", token, ""), `200 {"ok":true,"rooms":[]}`)
}

// TestOpenedAnew: connections and the machine are gone; what was agreed on is done anew, as it becomes known.
func TestOpenedAnew(t *testing.T) { // M1, M7
	d := newDesk(t)
	a, b := d.login(anna), d.login(bea)
	d.ask("PUT", "/v1/events", a, member("$1", "!r:home", anna, "join"))
	d.ask("PUT", "/v1/events", b, member("$2", "!r:home", bea, "join"))
	d.ask("PUT", "/v1/events", a, message("$3", "!r:home", anna, "hello"))
	d.ask("POST", "/v1/logout", a, "")
	d.send(d.conn, asking("GET", "/v1/never", "", "")) // agreed on by nobody yet
	all := d.Orders()
	same(t, "M7: how many orders", len(all), 7)
	d.disk.Crash(api.Crash{})
	d.disk.Restart()
	d.House = opened(t, 0, d.disk)
	same(t, "M7: Orders behind Open", len(d.Orders()), 0)
	same(t, "M2: a connection of the house that fell", d.Hangup(1), api.ErrConn)
	same(t, "M2: the first connection", d.connect(), 1)
	d.elect()
	d.send(1, asking("GET", "/v1/counts?room=!r:home", b, "")+asking("GET", "/v1/counts", a, "")+asking("GET", "/v1/feed", b, ""))
	same(t, "M7: nothing is known to be agreed on yet", len(d.Orders()), 0)
	d.wants("M4: it waits", 1, false)
	d.play()
	d.wants("M1: it is as it was", 1, false, `200 {"highlight":0,"ok":true,"unread":1}`, failed(401, 172), `200 {"changed":[{"highlight":0,"room":"!r:home","unread":1}],"gone":[],"next":"2","ok":true,"whole":true}`)
	now := d.Orders()
	if len(now) != 12 || !slices.Equal(now[:7], all) || now[7] != ordered("GET", "/v1/never", "", "") || now[8] != "" {
		t.Errorf("M7: Orders: %q, want %q and more", now, all)
	}
}

// TestHear: the node's errors, and what it takes.
func TestHear(t *testing.T) { // M5
	d := newDesk(t)
	for _, l := range []api.Letter{
		{}, {From: 1, To: 1, Kind: api.Append, Term: 1}, {From: 0, To: 0, Kind: api.Append, Term: 1}, {From: 3, To: 0, Kind: api.Append, Term: 1},
		{From: 1, To: 0, Kind: 0, Term: 1}, {From: 1, To: 0, Kind: 5, Term: 1}, {From: 1, To: 0, Kind: api.Append, Term: 0},
		{From: 1, To: 0, Kind: api.Append, Term: 1}, // it leads
		{From: 1, To: 0, Kind: api.Answer, Term: 1, Yes: true, Index: 300},
		{From: 1, To: 0, Kind: api.Vote, Term: 1, Entries: []api.Entry{{Term: 1}}},
	} {
		same(t, fmt.Sprintf("M5: Hear %+v", l), d.Hear(l), api.ErrLetter)
	}
	same(t, "M6: Leads", d.Leads(), true)
	d.disk.Crash(api.Crash{})
	same(t, "M5: Hear in a house that fell", d.Hear(api.Letter{From: 1, To: 0, Kind: api.Answer, Term: 1, Yes: true, Index: 1}), api.ErrDead)
	same(t, "M5: a wrong letter in a house that fell", d.Hear(api.Letter{}), api.ErrDead)
}

func TestLetters(t *testing.T) { // M5
	h := opened(t, 0, formatted(t, 100))
	n, _ := quorum.Open(0, formatted(t, 100))
	for range 10 {
		h.Tick()
		n.Tick()
	}
	want := n.Letters()
	if got := h.Letters(); len(got) != 2 || !reflect.DeepEqual(got, want) {
		t.Errorf("M5: Letters: %+v, want %+v", got, want)
	}
	if got := h.Letters(); len(got) != 0 {
		t.Errorf("M5: Letters: %+v twice", got)
	}
}

// TestAFallenHouse: it says so, and answers nothing of what waits.
func TestAFallenHouse(t *testing.T) { // M3 to M7
	d := newDesk(t)
	d.send(d.conn, asking("GET", "/v1/a", "", ""))
	d.play()
	d.send(d.conn, asking("GET", "/v1/b", "", "")) // waits
	letters := d.Letters()
	other := d.connect()
	d.disk.Crash(api.Crash{Keep: 9})
	d.disk.Restart() // it is opened anew, or has fallen
	orders := d.Orders()
	same(t, "M6: Tick", d.Tick(), api.ErrDead)
	same(t, "M5: Hear", d.Hear(api.Letter{From: 1, To: 0, Kind: api.Answer, Term: 1, Yes: true, Index: 3}), api.ErrDead)
	same(t, "M5: Letters", len(d.Letters()), 0)
	same(t, "M6: Leads", d.Leads(), false)
	same(t, "letters ahead of the fall", len(letters), 2)
	d.send(other, asking("GET", "/v1/c", "", "")+asking("GET", "/v1/d", "", "\xff")+asLast(asking("GET", "/v1/e", "", "")))
	d.wants("M3: the house has fallen", other, true, failed(503, 41), failed(400, 10), failed(503, 41)+" close")
	same(t, "M3: Bytes behind the last one", d.Bytes(other, nil), api.ErrConn)
	d.wants("M4: what waits", d.conn, false, failed(401, 170))
	same(t, "M7: Orders", strings.Join(d.Orders(), "|"), strings.Join(orders, "|"))
	same(t, "M2: Hangup", d.Hangup(other), api.OK)
	same(t, "M2: Connect", d.connect(), 3)
}

// TestItFallsInTheMidst: of a request whose order was being kept nobody knows whether it will be done.
func TestItFallsInTheMidst(t *testing.T) { // M3, P11
	done := 0
	for writes := range 8 {
		for keep := range 9 {
			d := newDesk(t)
			d.send(d.conn, asking("GET", "/v1/a", "", ""))
			d.play()
			d.disk.Fuse(writes, api.Crash{Keep: keep})
			d.send(d.conn, asking("GET", "/v1/b", "", ""))
			if d.disk.Alive() {
				continue
			}
			d.send(d.conn, asking("GET", "/v1/c", "", ""))
			d.wants("M3: it falls in the midst", d.conn, false, failed(401, 170), failed(503, 41), failed(503, 41))
			d.disk.Restart()
			d.House = opened(t, 0, d.disk)
			d.elect()
			d.play()
			switch orders := strings.Join(d.Orders(), "|"); orders {
			case "|" + ordered("GET", "/v1/a", "", "") + "|" + ordered("GET", "/v1/b", "", "") + "|":
				done++
			case "|" + ordered("GET", "/v1/a", "", "") + "|":
			default:
				t.Errorf("P11: orders %q", orders)
			}
		}
	}
	if done == 0 {
		t.Error("it was never done")
	}
}

// TestWhatWasNotDone: the place has gone to another entry, or the term to another leader.
func TestWhatWasNotDone(t *testing.T) { // the entry's term (behind M6)
	entry := func(term int, data string) api.Entry { return api.Entry{Term: term, Data: []byte(data)} }
	login := ordered("POST", "/v1/login", "", loginBody(anna))
	for _, k := range []struct {
		what    string
		entries []api.Entry // from the place 2 on
		want    []string    // of the requests that wait for 2, 3 and 4
		orders  int
	}{
		{"another one's order", []api.Entry{entry(2, login)}, []string{failed(503, 210)}, 2},
		{"no order", []api.Entry{entry(2, "x")}, []string{failed(503, 210)}, 2},
		{"no data", []api.Entry{entry(2, "")}, []string{failed(503, 210)}, 2},
		{"its own", []api.Entry{entry(1, login)}, []string{failed(405, 191)}, 2},
		{"all of its own", []api.Entry{entry(1, login), entry(1, login), entry(1, login)}, []string{failed(405, 191), failed(401, 170), failed(401, 170)}, 4},
		{"one of its own", []api.Entry{entry(1, ""), entry(2, ""), entry(2, login)}, []string{failed(405, 191), failed(503, 210), failed(503, 210)}, 4},
	} {
		d := newDesk(t)
		d.send(d.conn, asking("GET", "/v1/login", "", ""))
		d.send(d.conn, asking("GET", "/v1/x", "", ""))
		d.send(d.conn, asking("GET", "/v1/counts", "", ""))
		d.Letters()
		l := api.Letter{From: 2, To: 0, Kind: api.Append, Term: 2, Index: 1, Before: 1, Agreed: 1 + len(k.entries), Entries: k.entries}
		same(t, "M5: Hear", d.Hear(l), api.OK)
		d.wants("behind M6: "+k.what, d.conn, false, k.want...)
		same(t, "M7: Orders: "+k.what, len(d.Orders()), k.orders)
	}
}

// TestOnePlaceInTwoTerms: two requests wait for one place, by what they were told in two terms; one of them is done.
func TestOnePlaceInTwoTerms(t *testing.T) { // the entry's term (behind M6)
	d := newDesk(t)
	d.send(d.conn, asking("GET", "/v1/login", "", "")) // at 2, in the term 1
	// another one leads, and its log ends behind an entry of its own
	l := api.Letter{From: 1, To: 0, Kind: api.Append, Term: 2, Index: 1, Before: 1, Agreed: 1, Entries: []api.Entry{{Term: 2}}}
	same(t, "M5: Hear", d.Hear(l), api.OK)
	d.Letters()
	d.wants("M4: it may yet be done", d.conn, false)
	d.elect()                                      // in the term 3, with an entry at 3
	d.send(d.conn, asking("GET", "/v1/x", "", "")) // at 4
	l = api.Letter{From: 2, To: 0, Kind: api.Append, Term: 4, Index: 1, Before: 1, Agreed: 1, Entries: []api.Entry{{Term: 4}}}
	same(t, "M5: Hear", d.Hear(l), api.OK)
	d.Letters()
	d.elect()                                             // in the term 5, with an entry at 3
	d.send(d.conn, asking("DELETE", "/v1/login", "", "")) // at 4, too
	d.wants("M4: any of them may yet be done", d.conn, false)
	d.play()
	d.wants("M4: the place 2 went to another one", d.conn, false, failed(503, 210), failed(503, 210), failed(405, 191))
	same(t, "M7: Orders", strings.Join(d.Orders(), "|"), "|||"+ordered("DELETE", "/v1/login", "", ""))
	same(t, "waits that nobody has", len(d.waits), 0)
}

// TestItIsDoneUnderAnotherLeader: who loses the lead answers all the same, when its entry is agreed on.
func TestItIsDoneUnderAnotherLeader(t *testing.T) { // M9
	d := newDesk(t)
	d.send(d.conn, asking("POST", "/v1/login", "", loginBody(anna)))
	d.Letters()
	same(t, "M5: Hear", d.Hear(api.Letter{From: 1, To: 0, Kind: api.Append, Term: 7, Index: 2, Before: 1, Agreed: 1}), api.OK)
	same(t, "M6: Leads", d.Leads(), false)
	d.wants("M4: it waits", d.conn, false)
	same(t, "M5: Hear", d.Hear(api.Letter{From: 1, To: 0, Kind: api.Append, Term: 7, Index: 2, Before: 1, Agreed: 2}), api.OK)
	got, _ := d.receive(d.conn)
	if len(got) != 1 || !strings.HasPrefix(got[0], `200 {"ok":true,"token":"`) {
		t.Errorf("M9: %q", got)
	}
}

// TestOrdersOfTheSameTermThatAreNone: no house writes so; it is turned away all the same.
func TestOrdersOfTheSameTermThatAreNone(t *testing.T) { // behind M6
	d := newDesk(t)
	d.send(d.conn, asking("GET", "/v1/login", "", ""))
	d.send(d.conn, asking("GET", "/v1/login", "", ""))
	same(t, "M5: Hear", d.Hear(api.Letter{From: 1, To: 0, Kind: api.Append, Term: 2, Index: 1, Before: 1, Agreed: 1, Entries: []api.Entry{{Term: 2}}}), api.OK)
	made := []api.Entry{{Term: 1, Data: []byte("[]")}, {Term: 1, Data: []byte(ordered("PUT", "/v1/x", "", ""))}}
	same(t, "M5: Hear", d.Hear(api.Letter{From: 1, To: 0, Kind: api.Append, Term: 3, Index: 1, Before: 1, Agreed: 3, Entries: made}), api.OK)
	d.wants("behind M6: no order", d.conn, false, failed(503, 210), failed(401, 170))
}

// TestWhoseMemoryItIs: what comes out may be written into, and what was handed in, too.
func TestWhoseMemoryItIs(t *testing.T) { // P3
	d := newDesk(t)
	raw := []byte(asking("POST", "/v1/login", "", loginBody(anna)) + "unread")
	was := bytes.Clone(raw)
	for i := 0; i < len(raw)-6; i += 50 {
		same(t, "M3: Bytes", d.Bytes(d.conn, raw[i:min(i+50, len(raw)-6)]), api.OK)
		if !bytes.Equal(raw[i:], was[i:]) {
			t.Fatal("P3: Bytes has written into what was handed in")
		}
		for k := range raw[:min(i+50, len(raw)-6)] {
			raw[k] = '!'
		}
	}
	d.play()
	orders := d.Orders()
	want := slices.Clone(orders)
	for i := range orders {
		orders[i] = "spoilt"
	}
	_ = append(orders, "spoilt")
	same(t, "P3: Orders", strings.Join(d.Orders(), "|"), strings.Join(want, "|"))
	b, _, _ := d.Out(d.conn)
	for i := range b[:cap(b)] {
		b[:cap(b)][i] = '!'
	}
	same(t, "P3: behind that", d.ask("GET", "/v1/x", "", ""), failed(401, 170))
	entries := []api.Entry{{Term: 9, Data: []byte(ordered("GET", "/v1/x", "", ""))}}
	same(t, "M5: Hear", d.Hear(api.Letter{From: 1, To: 0, Kind: api.Append, Term: 9, Index: 3, Before: 1, Entries: entries}), api.OK)
	clear(entries[0].Data)
	same(t, "M5: Hear", d.Hear(api.Letter{From: 1, To: 0, Kind: api.Append, Term: 9, Index: 4, Before: 9, Agreed: 4}), api.OK)
	same(t, "P3: an entry", d.Orders()[3], ordered("GET", "/v1/x", "", ""))
}

// TestHousesHaveNothingToDoWithOneAnother: but by letters.
func TestHousesHaveNothingToDoWithOneAnother(t *testing.T) { // P4
	one, two := newDesk(t), newDesk(t)
	a := one.login(anna)
	for range 3 {
		two.login(bea)
	}
	same(t, "P4: a token of another house", two.ask("GET", "/v1/counts", a, ""), failed(401, 172))
	same(t, "P4: of its own", one.ask("GET", "/v1/counts", a, ""), `200 {"ok":true,"rooms":[]}`)
	same(t, "P4: connections", one.connect(), 2)
	same(t, "P4: orders", len(one.Orders()), 3)
	same(t, "P4: orders", len(two.Orders()), 5)
}
