package house

import (
	"bufio"
	"bytes"
	"crypto/hmac"
	"crypto/sha256"
	"encoding/hex"
	"fmt"
	"io"
	"net/http"
	"strings"
	"testing"

	"tocsin/api"
	"tocsin/disk"
)

// What is exported is as it was given.
var (
	_ func(*disk.Disk) api.Errno                        = Format
	_ func(int, *disk.Disk, []byte) (*House, api.Errno) = Open
	_ func(*House) (int, api.Errno)                     = (*House).Connect
	_ func(*House, int) api.Errno                       = (*House).Hangup
	_ func(*House, int, []byte) api.Errno               = (*House).Bytes
	_ func(*House, int) ([]byte, bool, api.Errno)       = (*House).Out
	_ func(*House, api.Letter) api.Errno                = (*House).Hear
	_ func(*House) []api.Letter                         = (*House).Letters
	_ func(*House) api.Errno                            = (*House).Tick
	_ func(*House) []string                             = (*House).Orders
	_ func(*House) bool                                 = (*House).Leads
)

const (
	anna  = "@a:home"
	bea   = "@b:home"
	away  = "@c:away"
	clock = "@clock:home"
	usher = "@gate:home"
)

const secret = "0123456789abcdef"

func blank(t testing.TB, blocks int) *disk.Disk {
	t.Helper()
	d, errno := disk.New(blocks)
	if errno != api.OK {
		t.Fatalf("D1: New(%d): error %d", blocks, errno)
	}
	return d
}

func formatted(t testing.TB, blocks int) *disk.Disk {
	t.Helper()
	d := blank(t, blocks)
	same(t, "M1: Format", Format(d), api.OK)
	return d
}

func opened(t testing.TB, id int, d *disk.Disk) *House {
	t.Helper()
	h, errno := Open(id, d, []byte(secret))
	if h == nil || errno != api.OK {
		t.Fatalf("M1: Open(%d) gives a house: %t, error %d", id, h != nil, errno)
	}
	return h
}

func same[T comparable](t testing.TB, what string, got, want T) {
	t.Helper()
	if got != want {
		t.Errorf("%s: %v, want %v", what, got, want)
	}
}

// alike wants that two disks are the same in all that can be asked of them.
func alike(t testing.TB, what string, got, want *disk.Disk) {
	t.Helper()
	gotWrites, gotSyncs := got.Costs()
	wantWrites, wantSyncs := want.Costs()
	if gotWrites != wantWrites || gotSyncs != wantSyncs || got.Falls() != want.Falls() || got.Alive() != want.Alive() {
		t.Fatalf("%s: of the disk %d writes, %d syncs, want %d, %d", what, gotWrites, gotSyncs, wantWrites, wantSyncs)
	}
	for i := range want.Blocks() {
		a, _ := got.Read(i)
		b, _ := want.Read(i)
		if !bytes.Equal(a, b) {
			t.Fatalf("%s: the block %d is %q, want %q", what, i, a, b)
		}
	}
}

// proofOf is what somebody proves by, by the library's means.
func proofOf(user string) string {
	h := hmac.New(sha256.New, []byte(secret))
	h.Write([]byte("login " + user))
	return hex.EncodeToString(h.Sum(nil))
}

func loginBody(user string) string {
	return fmt.Sprintf(`{"proof":"%s","user":"%s"}`, proofOf(user), user)
}

// asking is a request as bytes; of no token there is no header.
func asking(method, target, token, body string) string {
	s := method + " " + target + " HTTP/1.1\r\nhost: home\r\n"
	if token != "" {
		s += "Authorization: Bearer " + token + "\r\n"
	}
	if body != "" {
		s += fmt.Sprintf("content-length: %d\r\n", len(body))
	}
	return s + "\r\n" + body
}

// asLast is a request behind which the connection ends.
func asLast(request string) string {
	return strings.Replace(request, "\r\n\r\n", "\r\nconnection: close\r\n\r\n", 1)
}

// ordered is a request as an order: of texts without signs that are escaped.
func ordered(method, target, token, body string) string {
	return fmt.Sprintf(`{"body":"%s","method":"%s","target":"%s","token":"%s"}`, strings.ReplaceAll(body, `"`, `\"`), method, target, token)
}

// read takes responses apart, by the library's means: of each the status, the body and the headers of the house's own.
func read(t testing.TB, b []byte) []string {
	t.Helper()
	var list []string
	r := bufio.NewReader(bytes.NewReader(b))
	for {
		if _, err := r.Peek(1); err != nil {
			return list
		}
		response, err := http.ReadResponse(r, nil)
		if err != nil {
			t.Fatalf("M4: %q is no response: %v", b, err)
		}
		body, err := io.ReadAll(response.Body)
		if err != nil || response.Header.Get("Content-Type") != "application/json" {
			t.Fatalf("M4: %q: %v, %v", b, response.Header, err)
		}
		s := fmt.Sprint(response.StatusCode, " ", string(body))
		for _, name := range []string{"Retry-After", "X-Leader"} {
			for _, value := range response.Header.Values(name) {
				s += " " + strings.ToLower(name) + " " + value
			}
		}
		if response.Close {
			s += " close"
		}
		list = append(list, s)
	}
}

// failed is how a refusal is read.
func failed(status, errno int) string { return fmt.Sprintf(`%d {"error":%d}`, status, errno) }

const fine = `200 {"ok":true}`

// A desk is a house that leads, with a connection; the two others are played: they have all that they are sent.
type desk struct {
	testing.TB
	*House
	disk *disk.Disk
	conn int
}

func newDesk(t testing.TB) *desk {
	t.Helper()
	d := &desk{TB: t, disk: formatted(t, 4000)}
	d.House = opened(t, 0, d.disk)
	d.elect()
	d.play()
	d.conn = d.connect()
	return d
}

// elect lets the house stand, and be voted for.
func (d *desk) elect() {
	d.Helper()
	term := 0
	for range 30 {
		d.Tick()
		for _, l := range d.Letters() {
			term = max(term, l.Term)
		}
		if term > 0 {
			break
		}
	}
	same(d, "M5: Hear a vote", d.Hear(api.Letter{From: 1, To: 0, Kind: api.Vote, Term: term, Yes: true}), api.OK)
	if !d.Leads() {
		d.Fatal("M6: it does not lead behind two votes")
	}
}

// play answers letters as one does who has all that it is sent.
func (d *desk) play() {
	d.Helper()
	for letters := d.Letters(); len(letters) > 0; letters = d.Letters() {
		for _, l := range letters {
			if l.Kind != api.Append {
				continue
			}
			same(d, "M5: Hear an answer", d.Hear(api.Letter{From: l.To, To: l.From, Kind: api.Answer, Term: l.Term, Yes: true, Index: l.Index + len(l.Entries)}), api.OK)
		}
	}
}

func (d *desk) connect() int {
	d.Helper()
	conn, errno := d.Connect()
	if conn < 1 || errno != api.OK {
		d.Fatalf("M2: Connect: %d, error %d", conn, errno)
	}
	return conn
}

// send hands in bytes, and wants that they are taken.
func (d *desk) send(conn int, s string) {
	d.Helper()
	if errno := d.Bytes(conn, []byte(s)); errno != api.OK {
		d.Fatalf("M3: Bytes of %.300q: error %d", s, errno)
	}
}

// receive is what goes out, read; and whether the connection ends.
func (d *desk) receive(conn int) ([]string, bool) {
	d.Helper()
	b, ends, errno := d.Out(conn)
	if errno != api.OK {
		d.Fatalf("M4: Out: error %d", errno)
	}
	return read(d, b), ends
}

// wants wants that this goes out, and that the connection does not end, or does.
func (d *desk) wants(what string, conn int, ends bool, want ...string) {
	d.Helper()
	got, ended := d.receive(conn)
	if strings.Join(got, "\n") != strings.Join(want, "\n") || ended != ends {
		d.Errorf("%s: %q, %t, want %q, %t", what, got, ended, want, ends)
	}
}

// ask is a request and its answer.
func (d *desk) ask(method, target, token, body string) string {
	d.Helper()
	d.send(d.conn, asking(method, target, token, body))
	d.play()
	got, ends := d.receive(d.conn)
	if len(got) != 1 || ends {
		d.Fatalf("M4: %q, %t behind one request", got, ends)
	}
	return got[0]
}

// login is the token of a user.
func (d *desk) login(user string) string {
	d.Helper()
	s := d.ask("POST", "/v1/login", "", loginBody(user))
	token, ok := strings.CutPrefix(s, `200 {"ok":true,"token":"`)
	token, too := strings.CutSuffix(token, `"}`)
	if !ok || !too || token == "" {
		d.Fatalf("login of %s: %s", user, s)
	}
	return token
}

// Events, as they are put.

func event(id, room, sender, kind, more string) string {
	return `{"event_id":"` + id + `","room_id":"` + room + `","sender":"` + sender + `","type":"` + kind + `",` + more + `}`
}

func member(id, room, user, how string) string {
	return event(id, room, user, "m.room.member", `"state_key":"`+user+`","content":{"membership":"`+how+`"}`)
}

func message(id, room, sender, body string) string {
	return event(id, room, sender, "m.room.message", `"content":{"body":"`+body+`"}`)
}
