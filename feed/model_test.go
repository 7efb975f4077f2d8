package feed

import (
	"encoding/binary"
	"fmt"
	"maps"
	"math"
	"slices"
	"strconv"
	"strings"
	"testing"

	"tocsin/api"
	"tocsin/wire"
)

// A page is a sheet as a map: of each room what is unread, and what of it are highlights.
type page map[string][2]int

func pageOf(list []api.Count) page {
	p := page{}
	for _, c := range list {
		p[c.Room] = [2]int{c.Unread, c.Highlight}
	}
	return p
}

// list is a page's counts, by rising rooms.
func (p page) list() []api.Count {
	var l []api.Count
	for _, room := range slices.Sorted(maps.Keys(p)) {
		l = append(l, api.Count{Room: room, Unread: p[room][0], Highlight: p[room][1]})
	}
	return l
}

// A book is all pages of a user that there ever were, or, of one that was loaded, all since; from is the number of the first one.
type book struct {
	from  int
	pages []page
}

// last is the number of the present page.
func (b *book) last() int { return b.from + len(b.pages) - 1 }

func (b *book) present() page { return b.pages[len(b.pages)-1] }

// kept are the pages that a hub keeps.
func (b *book) kept() []page { return b.pages[max(0, len(b.pages)-51):] }

// A model is the books of all users.
type model map[string]*book

func (m model) book(user string) *book {
	if m[user] == nil {
		m[user] = &book{pages: []page{{}}}
	}
	return m[user]
}

func (m model) put(user string, now []api.Count) {
	b := m.book(user)
	if p := pageOf(now); !maps.Equal(p, b.present()) && b.last() < 9007199254740991 {
		b.pages = append(b.pages, p)
	}
}

// A told is all that Since answers.
type told struct {
	changed []api.Count
	gone    []string
	whole   bool
	next    string
	errno   api.Errno
}

// String writes it, so that answers that differ are written otherwise; a list of nothing as nil is.
func (a told) String() string {
	return fmt.Sprintf("%s, %q, %v, %q, %d", shown(a.changed), a.gone, a.whole, a.next, int(a.errno))
}

// shown writes counts, so that no two lists are written alike.
func shown(list []api.Count) string {
	var b strings.Builder
	for _, c := range list {
		fmt.Fprintf(&b, "{%q %d %d}", c.Room, c.Unread, c.Highlight)
	}
	return b.String()
}

func (m model) since(user, place string) told {
	b := m.book(user)
	now, next := b.present(), strconv.Itoa(b.last())
	if place == "" {
		return told{now.list(), nil, true, next, api.OK}
	}
	if strings.Trim(place, "0123456789") != "" || place[0] == '0' && place != "0" {
		return told{errno: api.ErrSince}
	}
	if len(place) > len(next) || len(place) == len(next) && place > next {
		return told{errno: api.ErrSince}
	}
	number, _ := strconv.Atoi(place)
	if number < b.last()-50 {
		return told{now.list(), nil, true, next, api.OK}
	}
	then := b.pages[number-b.from]
	a := told{next: next}
	for _, c := range now.list() {
		if old, ok := then[c.Room]; !ok || old != now[c.Room] {
			a.changed = append(a.changed, c)
		}
	}
	for _, c := range then.list() {
		if _, ok := now[c.Room]; !ok {
			a.gone = append(a.gone, c.Room)
		}
	}
	return a
}

func foldedByHand(ahead, changed []api.Count, gone []string, whole bool) []api.Count {
	p := page{}
	if !whole {
		p = pageOf(ahead)
	}
	if !whole {
		for _, room := range gone {
			delete(p, room)
		}
	}
	maps.Copy(p, pageOf(changed))
	return p.list()
}

func (m model) save() string {
	var users []string
	for _, user := range slices.Sorted(maps.Keys(m)) {
		if b := m[user]; b.last() > 0 {
			var sheets []string
			for _, p := range b.kept() {
				sheets = append(sheets, saidSheet(p.list()...))
			}
			users = append(users, saidUser(user, int64(b.last()), sheets...))
		}
	}
	return counted(users...)
}

// number, text and counted are a number, a text and a list as they are written, by the library's means.
func number(n int64) string { return string(binary.AppendVarint(nil, n)) }

func text(s string) string { return string(binary.AppendUvarint(nil, uint64(len(s)))) + s }

func counted(things ...string) string {
	return string(binary.AppendUvarint(nil, uint64(len(things)))) + strings.Join(things, "")
}

// saidSheet and saidUser are a sheet and a user as they are saved.
func saidSheet(list ...api.Count) string {
	var counts []string
	for _, c := range list {
		counts = append(counts, text(c.Room)+number(int64(c.Unread))+number(int64(c.Highlight)))
	}
	return counted(counts...)
}

func saidUser(user string, last int64, sheets ...string) string {
	return text(user) + number(last) + counted(sheets...)
}

// A taker takes bytes apart by the library's means; bad, once something is wrong.
type taker struct {
	bytes []byte
	bad   bool
}

func (k *taker) count() uint64 {
	n, size := binary.Uvarint(k.bytes)
	if k.bad || size <= 0 || len(binary.AppendUvarint(nil, n)) != size {
		k.bad = true
		return 0
	}
	k.bytes = k.bytes[size:]
	return n
}

func (k *taker) number() int64 {
	n := k.count()
	return int64(n>>1) ^ -int64(n&1)
}

func (k *taker) text() string {
	n := k.count()
	if k.bad || n > uint64(len(k.bytes)) {
		k.bad = true
		return ""
	}
	s := string(k.bytes[:n])
	k.bytes = k.bytes[n:]
	return s
}

// list takes as many things as it says.
func (k *taker) list(most uint64, one func()) {
	n := k.count()
	if n > most {
		k.bad = true
	}
	for i := uint64(0); i < n && !k.bad; i++ {
		one()
	}
}

// takenModel is what Load reads, and how many bytes are left behind it; nil, if it is to be refused.
func takenModel(bytes []byte) (model, int) {
	m, k := model{}, &taker{bytes: bytes}
	user := ""
	k.list(1000000, func() {
		name, b := k.text(), &book{}
		if len(m) > 0 && name <= user {
			k.bad = true
		}
		last := k.number()
		k.list(51, func() { b.pages = append(b.pages, k.page()) })
		if last < 1 || last > 9007199254740991 || int64(len(b.pages)) != min(last, 50)+1 {
			k.bad = true
			return
		}
		b.from = int(last) - len(b.pages) + 1
		if b.from == 0 && len(b.pages[0]) > 0 {
			k.bad = true
		}
		for i := 1; i < len(b.pages); i++ {
			k.bad = k.bad || maps.Equal(b.pages[i-1], b.pages[i])
		}
		user, m[name] = name, b
	})
	if k.bad {
		return nil, 0
	}
	return m, len(k.bytes)
}

func (k *taker) page() page {
	p := page{}
	room := ""
	k.list(1000000, func() {
		name := k.text()
		if len(p) > 0 && name <= room {
			k.bad = true
		}
		unread := k.number()
		room, p[name] = name, [2]int{int(unread), int(k.number())}
	})
	return p
}

// counts reads a list as the document writes it: "!r 2 1, !s 0 0".
func counts(s string) []api.Count {
	var l []api.Count
	for one := range strings.SplitSeq(s, ", ") {
		var c api.Count
		if n, _ := fmt.Sscan(one, &c.Room, &c.Unread, &c.Highlight); n == 3 {
			l = append(l, c)
		}
	}
	return l
}

func saved(h *Hub) string {
	w := wire.NewWriter()
	h.Save(w)
	return string(w.Bytes())
}

func since(h *Hub, user, place string) told {
	var a told
	a.changed, a.gone, a.whole, a.next, a.errno = h.Since(user, place)
	return a
}

// wrongPlaces are the places of no sheet.
var wrongPlaces = []string{
	"00", "01", "-1", "-0", "+0", "+1", " 0", "0 ", " 1", "1 ", "\n", "x", "1x", "x1", "0x1", "1e0", "1.0", "1.", ".1", "1_0", "1,0", "\x00", "0\x00",
	"٣", "１", "½", "\xff", "a", "true", "null", "000", "0000000000000000000000001",
	"9007199254740992", "9223372036854775807", "9223372036854775808", "18446744073709551616", "18446744073709551617", "99999999999999999999",
	strings.Repeat("9", 1000), strings.Repeat("0", 1000),
}

// A pair is a hub and its model, of which the same is asked.
type pair struct {
	testing.TB
	hub   *Hub
	model model
	calls []string // what was called, for who reads of a fault
}

func newPair(t testing.TB) *pair { return &pair{TB: t, hub: New(), model: model{}} }

func (p *pair) put(user string, now []api.Count) {
	p.Helper()
	p.calls = append(p.calls, fmt.Sprintf("Put(%q, %s)", user, shown(now)))
	list := slices.Clone(now)
	p.hub.Put(user, now)
	if !slices.Equal(now, list) {
		p.Fatalf("P3: %s: Put writes into what it was handed", p.row())
	}
	p.model.put(user, list)
	for i := range now {
		now[i] = api.Count{Room: "the caller's", Unread: math.MaxInt}
	}
}

// row is what was called.
func (p *pair) row() string { return strings.Join(p.calls[max(0, len(p.calls)-8):], "; ") }

// since asks both, and writes over what the hub told.
func (p *pair) since(user, place string) told {
	p.Helper()
	got, want := since(p.hub, user, place), p.model.since(user, place)
	if got.String() != want.String() {
		p.Fatalf("Z3: %s; Since(%q, %q):\n%v, want\n%v", p.row(), user, place, got, want)
	}
	spoil(got)
	return want
}

// spoil writes over what is the caller's, its spare room too.
func spoil(a told) {
	for i := range a.changed[:cap(a.changed)] {
		a.changed[:cap(a.changed)][i] = api.Count{Room: "the caller's"}
	}
	for i := range a.gone[:cap(a.gone)] {
		a.gone[:cap(a.gone)][i] = "the caller's"
	}
}

// hold wants that both are saved as the same.
func (p *pair) hold() {
	p.Helper()
	if got, want := saved(p.hub), p.model.save(); got != want {
		p.Fatalf("Z5: %s: it is saved as\n%q, want\n%q", p.row(), got, want)
	}
}

// reload goes on with the hub that is loaded from what is saved.
func (p *pair) reload() {
	p.Helper()
	h, errno := Load(wire.NewReader([]byte(saved(p.hub))))
	if h == nil || errno != api.OK {
		p.Fatalf("Z5: %s: Load: %d", p.row(), errno)
	}
	p.hub = h
	p.calls = append(p.calls, "Save, Load")
	p.hold()
}
