package feed

import (
	"fmt"
	"math"
	"math/rand"
	"slices"
	"strconv"
	"strings"
	"sync"
	"testing"

	"tocsin/api"
	"tocsin/wire"
)

var someUsers = []string{"@a", "@b", "", "@a\x00", "\xff"}

var someRooms = []string{"!r", "!s", "!q", "", "!r:home", "\xff", "\x00", "!R", "é"}

// countsBy is a list by chance, of few rooms, some of them twice.
func countsBy(rnd *rand.Rand) []api.Count {
	var l []api.Count
	for range rnd.Intn(6) {
		c := api.Count{Room: someRooms[rnd.Intn(len(someRooms))], Unread: rnd.Intn(3), Highlight: rnd.Intn(2)}
		if rnd.Intn(20) == 0 {
			c.Unread, c.Highlight = math.MinInt, math.MaxInt
		}
		l = append(l, c)
	}
	return l
}

// placeBy is a place about the kept ones, or what is none.
func (p *pair) placeBy(rnd *rand.Rand, user string) string {
	switch rnd.Intn(8) {
	case 0:
		return ""
	case 1:
		return wrongPlaces[rnd.Intn(len(wrongPlaces))]
	}
	return strconv.Itoa(p.model.book(user).last() - rnd.Intn(55) + 2)
}

// TestRowsByChance: rows of calls of any order, two hubs beside one another, held against models (Z1 to Z5, P3, P4).
func TestRowsByChance(t *testing.T) {
	t.Parallel()
	for seed := range int64(60) {
		rnd := rand.New(rand.NewSource(seed))
		pairs := []*pair{newPair(t), newPair(t)}
		for range 600 {
			p, user := pairs[rnd.Intn(2)], someUsers[rnd.Intn(rnd.Intn(len(someUsers))+1)]
			switch what := rnd.Intn(40); {
			case what < 20:
				p.put(user, countsBy(rnd))
			case what < 38:
				p.since(user, p.placeBy(rnd, user))
			case what < 39:
				p.reload()
			default:
				p.hold()
			}
		}
	}
}

// TestShortRows: all rows of five Puts from a few lists, and behind each one every place.
func TestShortRows(t *testing.T) {
	t.Parallel()
	lists := []string{"", "!r 1 0", "!r 1 1", "!s 1 0", "!r 1 0, !s 1 0", "!s 2 0, !r 1 0", "!q 0 0, !r 1 0, !s 1 0"}
	const length = 5
	rows := 1
	for range length {
		rows *= len(lists)
	}
	for row := range rows {
		p := newPair(t)
		for range length {
			p.put("@a", counts(lists[row%len(lists)]))
			row /= len(lists)
		}
		for number := range p.model.book("@a").last() + 2 {
			p.since("@a", strconv.Itoa(number))
		}
		p.since("@a", "")
		p.hold()
	}
}

// TestFoldsByChance: lists in any order, with rooms twice, held against a map (Z4, P3).
func TestFoldsByChance(t *testing.T) {
	t.Parallel()
	rnd := rand.New(rand.NewSource(1))
	for range 20000 {
		ahead, changed, whole := countsBy(rnd), countsBy(rnd), rnd.Intn(4) == 0
		var gone []string
		for range rnd.Intn(4) {
			gone = append(gone, someRooms[rnd.Intn(len(someRooms))])
		}
		holdFold(t, ahead, changed, gone, whole)
	}
}

// holdFold wants that Fold answers as a map would, and neither writes into what it is handed nor shares it.
func holdFold(t testing.TB, ahead, changed []api.Count, gone []string, whole bool) {
	t.Helper()
	what := fmt.Sprintf("Fold(%s, %s, %q, %v)", shown(ahead), shown(changed), gone, whole)
	want := foldedByHand(ahead, changed, gone, whole)
	a, c, g := slices.Clone(ahead), slices.Clone(changed), slices.Clone(gone)
	got := Fold(a, c, g, whole)
	if !slices.Equal(got, want) {
		t.Fatalf("Z4: %s: %s, want %s", what, shown(got), shown(want))
	}
	spoil(told{changed: got})
	if !slices.Equal(a, ahead) || !slices.Equal(c, changed) || !slices.Equal(g, gone) {
		t.Fatalf("P3: %s writes into what it was handed, or shares it", what)
	}
}

// TestWhoFoldsIsUpToDate: clients that ask now and then, some of them seldom, have the present sheet each time (Z6).
func TestWhoFoldsIsUpToDate(t *testing.T) {
	t.Parallel()
	type client struct {
		user, place string
		has         []api.Count
	}
	for seed := range int64(20) {
		rnd := rand.New(rand.NewSource(seed))
		p := newPair(t)
		var clients []*client
		for i := range 40 {
			clients = append(clients, &client{user: someUsers[i%3]})
		}
		wholes := 0
		for range 1500 {
			p.put(someUsers[rnd.Intn(3)], countsBy(rnd))
			c := clients[rnd.Intn(len(clients))*rnd.Intn(2)] // half of all asks are the first one's
			changed, gone, whole, next, errno := p.hub.Since(c.user, c.place)
			if errno != api.OK {
				t.Fatalf("Z6: Since(%q, %q): %d", c.user, c.place, errno)
			}
			if whole && c.place != "" {
				wholes++
			}
			c.has, c.place = Fold(c.has, changed, gone, whole), next
			if want := p.model.book(c.user).present().list(); !slices.Equal(c.has, want) {
				t.Fatalf("Z6: %q has %s, want %s", c.user, shown(c.has), shown(want))
			}
			if rnd.Intn(100) == 0 {
				p.reload()
			}
		}
		if wholes == 0 {
			t.Error("no client was too late: the test does not ask what it is to")
		}
	}
}

// TestNothingOfOthers: what is told of a user hangs on that one's sheets alone (Z6).
func TestNothingOfOthers(t *testing.T) {
	t.Parallel()
	rnd := rand.New(rand.NewSource(2))
	alone, among := New(), New()
	for i := range 300 {
		list := countsBy(rnd)
		alone.Put("@a", list)
		among.Put("@a", list)
		for _, other := range []string{"", "@", "@b", "@a\x00", "@A", "@a "} {
			among.Put(other, countsBy(rnd))
			since(among, other, strconv.Itoa(i))
		}
		for _, place := range []string{"", "0", strconv.Itoa(i), strconv.Itoa(max(0, i-30)), strconv.Itoa(i + 1), strconv.Itoa(i + 2), "x"} {
			if got, want := since(among, "@a", place), since(alone, "@a", place); got.String() != want.String() {
				t.Fatalf("Z6: Since(@a, %q) among others: %v, want %v", place, got, want)
			}
		}
	}
}

// TestLoadOfHurtBytes: what is a little other than what was saved is refused, or read as what it says, as by a plain second reading (Z5).
func TestLoadOfHurtBytes(t *testing.T) {
	t.Parallel()
	rnd := rand.New(rand.NewSource(3))
	refused, taken := 0, 0
	for range 300 {
		p := newPair(t)
		for range rnd.Intn(8) + 1 {
			p.put(someUsers[rnd.Intn(len(someUsers))], countsBy(rnd))
		}
		for range rnd.Intn(2) * rnd.Intn(60) {
			p.put("@b", countsBy(rnd)) // till some is not kept
		}
		bytes := saved(p.hub)
		for range 200 {
			if holdLoad(t, bent(rnd, bytes)) {
				taken++
			} else {
				refused++
			}
		}
	}
	if refused < 1000 || taken < 1000 {
		t.Errorf("%d were refused, %d taken: the test does not ask what it is to", refused, taken)
	}
}

// bent is bytes with small changes.
func bent(rnd *rand.Rand, bytes string) []byte {
	b := []byte(bytes)
	for range rnd.Intn(3) + 1 {
		if len(b) == 0 {
			return b
		}
		i := rnd.Intn(len(b))
		switch rnd.Intn(6) {
		case 0:
			b = slices.Delete(b, i, i+1)
		case 1:
			b = slices.Insert(b, i, b[rnd.Intn(len(b))])
		case 2:
			b[i] = byte(rnd.Intn(256))
		case 3:
			b[i]++
		case 4:
			b[i]--
		default:
			j := rnd.Intn(len(b))
			b[i], b[j] = b[j], b[i]
		}
	}
	return b
}

// holdLoad wants that bytes are loaded as a plain second reading does, and tells whether they are.
func holdLoad(t testing.TB, bytes []byte) bool {
	t.Helper()
	want, left := takenModel(bytes)
	copied := slices.Clone(bytes)
	in := wire.NewReader(bytes)
	h, errno := Load(in)
	if !slices.Equal(bytes, copied) {
		t.Fatalf("P3: Load writes into %q", copied)
	}
	if want == nil {
		if h != nil || errno != api.ErrWire {
			t.Fatalf("Z5, P2: Load(%q): %v, %d; want nil, ErrWire", bytes, h != nil, errno)
		}
		return false
	}
	if h == nil || errno != api.OK {
		t.Fatalf("Z5: Load(%q): %v, %d; want a hub, OK", bytes, h != nil, errno)
	}
	p := &pair{TB: t, hub: h, model: want, calls: []string{fmt.Sprintf("Load(%q)", bytes)}}
	p.hold()
	read := bytes[:len(bytes)-left]
	if saved(h) != string(read) {
		t.Fatalf("Z5: Load(%q) is saved as %q", bytes, saved(h))
	}
	alone := wire.NewReader(read)
	if _, errno := Load(alone); errno != api.OK || !alone.End() || in.End() != (left == 0) {
		t.Fatalf("Z5: behind Load(%q) the reader is not just behind what was read", bytes)
	}
	for user, b := range want {
		for back := range 3 {
			p.since(user, strconv.Itoa(b.last()-back+1))
		}
		p.since(user, strconv.Itoa(b.from))
		p.put(user, nil)
		p.put(user, counts("!r 5 5"))
		p.since(user, "")
	}
	p.hold()
	return true
}

// TestHubsAtOneTime: hubs have nothing to do with one another (P4).
func TestHubsAtOneTime(t *testing.T) {
	t.Parallel()
	var all sync.WaitGroup
	for seed := range int64(8) {
		all.Go(func() {
			rnd := rand.New(rand.NewSource(seed))
			h, m := New(), model{}
			for range 500 {
				user, list := someUsers[rnd.Intn(len(someUsers))], countsBy(rnd)
				h.Put(user, list)
				m.put(user, list)
				if got, want := since(h, user, ""), m.since(user, ""); got.String() != want.String() {
					t.Errorf("P4: Since(%q): %v, want %v", user, got, want)
				}
			}
			if saved(h) != m.save() {
				t.Error("P4: it is saved otherwise than its like alone")
			}
		})
	}
	all.Wait()
}

// listOf makes a list of counts of any bytes: of each room one byte of length, and so on.
func listOf(bytes string) []api.Count {
	var l []api.Count
	for len(bytes) >= 3 {
		n := min(int(bytes[0]%4), len(bytes)-3)
		l = append(l, api.Count{Room: bytes[3 : 3+n], Unread: int(bytes[1] % 4), Highlight: int(int8(bytes[2]))})
		bytes = bytes[3+n:]
	}
	return l
}

func FuzzFold(f *testing.F) { // Z4
	f.Add("\x02\x01\x00!r\x02\x02\x02!s", "\x02\x03\x03!s\x02\x01\x01!q", "!r", false)
	f.Add("\x01\x00\x00a\x01\x01\x01a\x01\x02\x02a", "", "a,,b", false)
	f.Add("", "\x01\x00\x00a\x01\x01\x01a", "a", true)
	f.Fuzz(func(t *testing.T, ahead, changed, gone string, whole bool) {
		holdFold(t, listOf(ahead), listOf(changed), strings.Split(gone, ","), whole)
	})
}

func FuzzSince(f *testing.F) { // Z2, Z3
	f.Add("@a", "1", "\x02\x01\x00!r", "\x02\x02\x01!r\x02\x00\x00!s")
	f.Add("", "", "", "\x00\x00\x00")
	f.Add("@b", "007", "\x01\x01\x01a", "\x01\x01\x01a")
	f.Fuzz(func(t *testing.T, user, place, first, second string) {
		p := newPair(t)
		p.put(user, listOf(first))
		p.put("@a", listOf(second))
		p.put(user, listOf(second))
		for _, s := range []string{place, "", "0", "1", "2", "3"} {
			p.since(user, s)
			p.since("@a", s)
		}
		p.hold()
		p.reload()
	})
}

func FuzzLoad(f *testing.F) { // Z5, P1
	for _, s := range []string{"", "\x00", filledBytes, "\x01\x00\x02\x02\x00\x01\x00\x00\x00", "\xc0\x84\x3d", counted(manySheets("@z", 9007199254740991, 51))} {
		f.Add([]byte(s))
	}
	f.Fuzz(func(t *testing.T, bytes []byte) { holdLoad(t, bytes) })
}
