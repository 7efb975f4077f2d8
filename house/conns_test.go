package house

import (
	"fmt"
	"slices"
	"strings"
	"testing"

	"tocsin/api"
)

func TestConnectAndHangup(t *testing.T) { // M2
	d := newDesk(t) // with one connection
	for want := 2; want <= 8; want++ {
		same(t, "M2: Connect", d.connect(), want)
	}
	for range 3 {
		conn, errno := d.Connect()
		same(t, "M2: a ninth connection", conn, 0)
		same(t, "M2: a ninth connection", errno, api.ErrBusy)
	}
	d.send(8, asLast(asking("GET", "/", "", "")))
	d.play()
	d.wants("M4: the last answer", 8, true, failed(401, 170)+" close")
	if _, errno := d.Connect(); errno != api.ErrBusy { // it has ended, and is open all the same
		t.Errorf("M2: Connect: error %d, want %d", errno, api.ErrBusy)
	}
	same(t, "M2: Hangup", d.Hangup(8), api.OK)
	same(t, "M2: Hangup", d.Hangup(3), api.OK)
	for _, conn := range []int{3, 8, 0, -1, 9, 1 << 62, -1 << 62} {
		same(t, fmt.Sprint("M2: Hangup of ", conn), d.Hangup(conn), api.ErrConn)
		same(t, fmt.Sprint("M3: Bytes of ", conn), d.Bytes(conn, []byte("x")), api.ErrConn)
		b, ends, errno := d.Out(conn)
		if b != nil || ends || errno != api.ErrConn {
			t.Errorf("M4, P2: Out of %d: %q, %t, error %d", conn, b, ends, errno)
		}
	}
	same(t, "M2: Connect", d.connect(), 9)
	same(t, "M2: Connect", d.connect(), 10)
	for _, conn := range []int{1, 2, 4, 5, 6, 7, 9, 10} {
		same(t, "M2: Hangup", d.Hangup(conn), api.OK)
	}
	for want := 11; want <= 18; want++ {
		same(t, "M2: Connect", d.connect(), want)
	}
}

// TestHangupWhileItWaits: what was asked for is done, and nobody is answered.
func TestHangupWhileItWaits(t *testing.T) { // M2
	d := newDesk(t)
	other := d.connect()
	d.send(d.conn, asking("POST", "/v1/login", "", loginBody(anna)))
	d.send(other, asking("GET", "/v1/a", "", ""))
	d.send(d.conn, asking("GET", "/v1/b", "", ""))
	d.send(other, asking("GET", "/v1/c", "", "\xff"))
	same(t, "M2: Hangup", d.Hangup(d.conn), api.OK)
	next := d.connect()
	d.send(next, asking("PUT", "/v1/login", "", ""))
	d.play()
	d.wants("M2: another connection", other, false, failed(401, 170), failed(400, 10))
	d.wants("M2: a new one", next, false, failed(405, 191))
	if _, _, errno := d.Out(d.conn); errno != api.ErrConn {
		t.Errorf("M4: Out of one that was hung up: error %d", errno)
	}
	want := []string{"", ordered("POST", "/v1/login", "", loginBody(anna)), ordered("GET", "/v1/a", "", ""), ordered("GET", "/v1/b", "", ""), ordered("PUT", "/v1/login", "", "")}
	same(t, "M2, M7: what is done all the same", strings.Join(d.Orders(), "|"), strings.Join(want, "|"))
	same(t, "waits that nobody has", len(d.waits), 0)
}

// TestTheOrderOfARequest: what it has, and where its token is from.
func TestTheOrderOfARequest(t *testing.T) { // M3
	d := newDesk(t)
	for _, k := range []struct{ request, want string }{
		{"GET /v1/counts HTTP/1.1\r\nhost: x\r\n\r\n", ordered("GET", "/v1/counts", "", "")},
		{"\r\n\r\nGET /v1/counts HTTP/1.1\r\nHost: x\r\nAUTHORIZATION:Bearer tok\r\n\r\n", ordered("GET", "/v1/counts", "tok", "")},
		{"!x /?%zz&&=# HTTP/1.1\r\nhost: x\r\nauthorization:   Bearer a b c  \r\n\r\n", ordered("!x", "/?%zz&&=#", "a b c", "")},
		{"GET / HTTP/1.1\r\nhost: x\r\nauthorization: bearer tok\r\n\r\n", ordered("GET", "/", "", "")},
		{"GET / HTTP/1.1\r\nhost: x\r\nauthorization: BEARER tok\r\n\r\n", ordered("GET", "/", "", "")},
		{"GET / HTTP/1.1\r\nhost: x\r\nauthorization: Bearer\ttok\r\n\r\n", ordered("GET", "/", "", "")},
		{"GET / HTTP/1.1\r\nhost: x\r\nauthorization: Bearer\r\n\r\n", ordered("GET", "/", "", "")},
		{"GET / HTTP/1.1\r\nhost: x\r\nauthorization: Bearer \r\n\r\n", ordered("GET", "/", "", "")},
		{"GET / HTTP/1.1\r\nhost: x\r\nauthorization: Bearer  tok\r\n\r\n", ordered("GET", "/", " tok", "")},
		{"GET / HTTP/1.1\r\nhost: x\r\nauthorization: Bearer Bearer tok\r\n\r\n", ordered("GET", "/", "Bearer tok", "")},
		{"GET / HTTP/1.1\r\nhost: x\r\nauthorization: Basic Bearer tok\r\n\r\n", ordered("GET", "/", "", "")},
		{"GET / HTTP/1.1\r\nhost: x\r\nauthorization: tok\r\n\r\n", ordered("GET", "/", "", "")},
		{"GET / HTTP/1.1\r\nhost: x\r\nauthorization: Bearer one\r\nauthorization: Bearer two\r\n\r\n", ordered("GET", "/", "one", "")},
		{"GET / HTTP/1.1\r\nhost: x\r\nauthorization: Basic one\r\nauthorization: Bearer two\r\n\r\n", ordered("GET", "/", "", "")},
		{"GET / HTTP/1.1\r\nhost: x\r\nauthorization:\r\nauthorization: Bearer two\r\n\r\n", ordered("GET", "/", "", "")},
		{"GET / HTTP/1.1\r\nhost: x\r\nx-authorization: Bearer two\r\ncookie: Bearer three\r\n\r\n", ordered("GET", "/", "", "")},
		{"GET / HTTP/1.1\r\nhost: x\r\nauthorization: Bearer \xc3\xa9\xff\xe2\x82\r\n\r\n", ordered("GET", "/", "é\ufffd\ufffd\ufffd", "")},
		{"GET / HTTP/1.1\r\nhost: x\r\nauthorization: Bearer \"\\\r\n\r\n", `{"body":"","method":"GET","target":"/","token":"\"\\"}`},
		{"PUT /v1/x HTTP/1.1\r\nhost: x\r\ncontent-length: 5\r\n\r\n\x00\n\xc3\xa9\x7f", `{"body":"\u0000\né` + "\x7f" + `","method":"PUT","target":"/v1/x","token":""}`},
		{"PUT /v1/x HTTP/1.1\r\nhost: x\r\ntransfer-encoding: chunked\r\n\r\n2\r\na\xc3\r\n1\r\n\xa9\r\n0\r\nauthorization: Bearer x\r\n\r\n", ordered("PUT", "/v1/x", "", "aé")},
		{"GET /%41 HTTP/1.0\r\nconnection: keep-alive\r\n\r\n", ordered("GET", "/%41", "", "")},
	} {
		had := len(d.Orders())
		d.send(d.conn, k.request)
		d.play()
		d.wants(k.request, d.conn, false, failed(401, 170))
		same(t, fmt.Sprintf("M3: the orders of %q", k.request), strings.Join(d.Orders()[had:], "|"), k.want)
	}
}

// TestLongOrders: it is the printed order that counts.
func TestLongOrders(t *testing.T) { // M3
	d := newDesk(t)
	bare := len(ordered("PUT", "/v1/x", "tok", ""))
	for _, k := range []struct {
		sign string
		size int // of the sign, printed
	}{{"a", 1}, {`"`, 2}, {"é", 2}, {"\x01", 6}, {"\n", 2}, {"\U0001f514", 4}} {
		for _, more := range []int{-1, 0, 1, 2} {
			n := (4096 - bare) / k.size
			rest := 4096 - bare - n*k.size + more
			body := strings.Repeat(k.sign, n) + strings.Repeat("b", max(0, rest))
			if rest < 0 {
				body = strings.Repeat(k.sign, n-1) + strings.Repeat("b", k.size+rest)
			}
			had := len(d.Orders())
			d.send(d.conn, asking("PUT", "/v1/x", "tok", body))
			if more > 0 { // that is known at once
				d.wants("M3: a long order", d.conn, false, failed(413, 182))
			} else {
				d.wants("M3: an order that is not too long", d.conn, false)
				d.play()
				d.wants("M3: an order that is not too long", d.conn, false, failed(401, 170))
			}
			got := d.Orders()[had:]
			if more > 0 && len(got) != 0 || more <= 0 && (len(got) != 1 || len(got[0]) != 4096+more) {
				t.Errorf("M3: %d of %q, and %d more: %d orders", n, k.sign, more, len(got))
			}
		}
	}
	d.send(d.conn, asking("PUT", "/v1/x", "", strings.Repeat("a", 6000)))
	d.wants("M3: the longest body", d.conn, false, failed(413, 182))
	d.send(d.conn, asking("PUT", "/v1/x", "", strings.Repeat("a", 5999)+"\xff"))
	d.wants("M3: the longest body, and no UTF-8", d.conn, false, failed(400, 10))
	d.send(d.conn, asking("PUT", "/v1/x", strings.Repeat("\xff", 1500), ""))
	d.wants("M3: a token that is longer as a text", d.conn, false, failed(413, 182))
}

func TestBodiesThatAreNoUTF8(t *testing.T) { // M3
	d := newDesk(t)
	had := len(d.Orders())
	for _, body := range []string{"\xff", "a\xc3", "\xed\xa0\x80", "\xc0\x80", "\xf4\x90\x80\x80", `{"user":"` + "\x80" + `"}`} {
		d.send(d.conn, asking("POST", "/v1/login", "", body))
		d.wants(fmt.Sprintf("M3: the body %q", body), d.conn, false, failed(400, 10))
	}
	d.play()
	same(t, "M3: orders", len(d.Orders()), had)
	h := opened(t, 2, formatted(t, 100)) // ahead of what the node says
	conn, _ := h.Connect()
	h.Bytes(conn, []byte(asking("GET", "/", "", "\xff")+asking("GET", "/", "", strings.Repeat("a", 5000))+asking("GET", "/", "", "")))
	b, _, _ := h.Out(conn)
	same(t, "M3: of a house that does not lead", strings.Join(read(t, b), ", "), failed(400, 10)+", "+failed(413, 182)+", "+failed(503, 210))
}

// TestWhoLeads: a house that does not lead tells who does, if it knows.
func TestWhoLeads(t *testing.T) { // M3, M6
	asks := func(h *House) string {
		conn, _ := h.Connect()
		same(t, "M3: Bytes", h.Bytes(conn, []byte(asking("GET", "/v1/counts", "", ""))), api.OK)
		b, ends, errno := h.Out(conn)
		same(t, "M4: Out", errno, api.OK)
		same(t, "M4: Out", ends, false)
		h.Hangup(conn)
		return strings.Join(read(t, b), ", ")
	}
	for id := range 3 {
		h := opened(t, id, formatted(t, 100))
		same(t, "M3: nobody leads", asks(h), failed(503, 210))
		for from := range 3 {
			if from == id {
				continue
			}
			same(t, "M5: Hear", h.Hear(api.Letter{From: from, To: id, Kind: api.Append, Term: 1 + from}), api.OK)
			same(t, "M3: another one leads", asks(h), fmt.Sprint(failed(503, 210), " x-leader ", from))
			same(t, "M6: Leads", h.Leads(), false)
		}
		var term int
		for term == 0 { // till it stands
			h.Tick()
			for _, l := range h.Letters() {
				if l.Kind == api.Ask {
					term = l.Term
				}
			}
		}
		same(t, "M6: Leads, when it stands", h.Leads(), false)
		same(t, "M3: it stands", asks(h), failed(503, 210))
		h.Hear(api.Letter{From: (id + 1) % 3, To: id, Kind: api.Vote, Term: term, Yes: true})
		same(t, "M6: Leads", h.Leads(), true)
		same(t, "M3: it leads", asks(h), "")
		h.Hear(api.Letter{From: (id + 2) % 3, To: id, Kind: api.Ask, Term: 1000, Index: 400, Before: 999})
		same(t, "M6: Leads, in a later term", h.Leads(), false)
		same(t, "M3: in a later term", asks(h), failed(503, 210))
	}
}

// TestBusy: a leader takes no more than 32 orders that are not agreed on, and names itself.
func TestBusy(t *testing.T) { // M3
	d := newDesk(t)
	var all []string
	for i := range 35 {
		d.send(d.conn, asking("GET", fmt.Sprint("/v1/", i), "", ""))
		all = append(all, failed(401, 170))
	}
	other := d.connect()
	d.send(other, asking("GET", "/v1/x", "", ""))
	d.wants("M4: what is refused at once", other, false, failed(503, 211)+" x-leader 0")
	d.wants("M4: behind what waits", d.conn, false)
	for i := 32; i < 35; i++ {
		all[i] = failed(503, 211) + " x-leader 0"
	}
	d.play()
	d.wants("M4: when all is agreed on", d.conn, false, all...)
	same(t, "M7: orders", len(d.Orders()), 33)
	d.send(other, asking("GET", "/v1/x", "", ""))
	d.play()
	d.wants("M3: it is not busy any more", other, false, failed(401, 170))
}

// TestFullLog: there may be 400 entries, and then none.
func TestFullLog(t *testing.T) { // M3
	d := newDesk(t)
	for len(d.Orders()) < 400 {
		same(t, "M3: there is room", d.ask("GET", "/v1/counts", "", ""), failed(401, 170))
	}
	for range 3 {
		same(t, "M3: there is none", d.ask("GET", "/v1/counts", "", ""), failed(503, 211)+" x-leader 0")
	}
	same(t, "M7: orders", len(d.Orders()), 400)
}

// TestFaults: bytes that are no request end the connection.
func TestFaults(t *testing.T) { // M3
	d := newDesk(t)
	for _, k := range []struct {
		bytes string
		want  string
	}{
		{"nonsense\r\n", failed(400, 180)},
		{"GET / HTTP/1.1\r\n\r\n", failed(400, 180)},
		{"GET / HTTP/1.1\r\nx: " + strings.Repeat("x", 2100), failed(431, 181)},
		{"GET /" + strings.Repeat("x", 600), failed(431, 181)},
		{"POST / HTTP/1.1\r\nhost: x\r\ncontent-length: 6001\r\n\r\n", failed(413, 182)},
		{"POST / HTTP/1.1\r\nhost: x\r\ntransfer-encoding: gzip\r\n\r\n", failed(501, 183)},
		{"GET / HTTP/2.0\r\n", failed(505, 184)},
	} {
		conn := d.connect()
		d.send(conn, k.bytes+asking("GET", "/behind", "", ""))
		same(t, "M3: Bytes behind a fault", d.Bytes(conn, []byte(asking("GET", "/behind", "", ""))), api.ErrConn)
		same(t, "M3: no bytes behind a fault", d.Bytes(conn, nil), api.ErrConn)
		d.wants("M4: a fault", conn, true, k.want+" close")
		d.wants("M4: behind a fault", conn, true)
		same(t, "M3: Bytes behind its answer", d.Bytes(conn, nil), api.ErrConn)
		d.Hangup(conn)
		// behind requests that wait
		conn = d.connect()
		d.send(conn, asking("GET", "/ahead", "", "")+asking("GET", "/ahead", "", "\xff")+k.bytes)
		d.wants("M4: a fault behind what waits", conn, false)
		same(t, "M3: Bytes behind a fault that is not answered", d.Bytes(conn, nil), api.ErrConn)
		d.play()
		d.wants("M4: a fault behind requests", conn, true, failed(401, 170), failed(400, 10), k.want+" close")
		d.Hangup(conn)
	}
	if n := len(d.Orders()); n != 8 || slices.ContainsFunc(d.Orders(), func(s string) bool { return strings.Contains(s, "behind") }) {
		t.Errorf("M3: %d orders: %q", n, d.Orders())
	}
}

// TestLast: behind a request that is the last nothing is looked at.
func TestLast(t *testing.T) { // M3, M4
	d := newDesk(t)
	for _, k := range []struct{ request, want string }{
		{asLast(asking("GET", "/v1/x", "", "")), failed(401, 170)},
		{asLast(asking("PUT", "/v1/x", "", "\xff")), failed(400, 10)},
		{asLast(asking("PUT", "/v1/x", "", strings.Repeat("a", 5000))), failed(413, 182)},
		{"GET /v1/x HTTP/1.0\r\n\r\n", failed(401, 170)},
	} {
		conn := d.connect()
		d.send(conn, asking("GET", "/v1/first", "", "")+k.request+asking("GET", "/v1/behind", "", "")+"nonsense\r\n")
		same(t, "M3: Bytes behind the last request", d.Bytes(conn, []byte("x")), api.ErrConn)
		d.wants("M4: it waits", conn, false)
		d.play()
		d.wants("M4: the last answer", conn, true, failed(401, 170), k.want+" close")
		d.wants("M4: behind the last answer", conn, true)
		same(t, "M3: Bytes behind the last answer", d.Bytes(conn, nil), api.ErrConn)
		d.Hangup(conn)
	}
	if slices.ContainsFunc(d.Orders(), func(s string) bool { return strings.Contains(s, "behind") }) {
		t.Errorf("M3: %q", d.Orders())
	}
}

// TestAnswersComeInTheirOrder: up to the first request that waits, whatever is ready behind it.
func TestAnswersComeInTheirOrder(t *testing.T) { // M4
	d := newDesk(t)
	no, long := failed(400, 10), failed(413, 182)
	d.send(d.conn, asking("PUT", "/v1/a", "", "\xff")+asking("PUT", "/v1/b", "", strings.Repeat("a", 5000))+asking("GET", "/v1/c", "", ""))
	d.wants("M4: up to what waits", d.conn, false, no, long)
	d.send(d.conn, asking("PUT", "/v1/d", "", "\xff"))
	d.wants("M4: behind what waits", d.conn, false)
	d.play()
	d.send(d.conn, asking("GET", "/v1/login", "", ""))
	d.wants("M4: up to what waits now", d.conn, false, failed(401, 170), no)
	d.wants("M4: nothing twice", d.conn, false)
	d.play()
	d.send(d.conn, asLast(asking("PUT", "/v1/f", "", "\xff")))
	d.wants("M4: to the end", d.conn, true, failed(405, 191), no+" close")
	same(t, "answers that went out, and are kept", len(d.conns[d.conn].slots), 0)
}

// TestPieces: requests in pieces of any size, and byte by byte; what is agreed on in between is answered in between.
func TestPieces(t *testing.T) { // M3
	all := asking("POST", "/v1/login", "", loginBody(anna)) + asking("GET", "/v1/counts", "tok", "") + asking("PUT", "/v1/x", "", "\xff") + asLast(asking("GET", "/v1/feed", "", ""))
	for size := 1; size <= len(all); size++ {
		d := newDesk(t)
		for i := 0; i < len(all); i += size {
			d.send(d.conn, "") // no bytes are bytes, too
			d.send(d.conn, all[i:min(len(all), i+size)])
			d.play()
		}
		got, ends := d.receive(d.conn)
		if len(got) != 4 || !strings.HasPrefix(got[0], `200 {"ok":true,"token":"`) || got[1] != failed(401, 170) || got[2] != failed(400, 10) || got[3] != failed(401, 170)+" close" || !ends {
			t.Fatalf("M3: in pieces of %d: %q, %t", size, got, ends)
		}
	}
}

// TestManyConnections: each has its own answers.
func TestManyConnections(t *testing.T) { // M3, M4
	d := newDesk(t)
	conns := []int{d.conn}
	for range 7 {
		conns = append(conns, d.connect())
	}
	targets := []string{"/v1/login", "/v1/x"}
	for i, conn := range conns { // halves of requests, which are whole in the other order
		d.send(conn, asking("GET", targets[i%2], "", "")[:10+i])
	}
	for i, conn := range slices.Backward(conns) {
		d.send(conn, asking("GET", targets[i%2], "", "")[10+i:]+asking("PUT", targets[1-i%2], "", ""))
	}
	d.play()
	for i, conn := range conns {
		want := []string{failed(405, 191), failed(401, 170)}
		if i%2 == 1 {
			slices.Reverse(want)
		}
		d.wants("M4: of many connections", conn, false, want...)
	}
}
