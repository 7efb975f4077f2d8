package feed

import (
	"math"
	"slices"
	"strconv"
	"strings"
	"testing"

	"tocsin/api"
)

// An asker asks a hub, and wants what the document says.
type asker struct {
	testing.TB
	hub *Hub
}

// asks wants changed, gone, whether it is whole, and next; twice, for what is told changes nothing.
func (a asker) asks(user, place, changed, gone string, whole bool, next string) {
	a.Helper()
	want := told{counts(changed), strings.Fields(gone), whole, next, api.OK}
	for range 2 {
		got := since(a.hub, user, place)
		if got.String() != want.String() {
			a.Errorf("Z3: Since(%q, %q): %v, want %v", user, place, got, want)
		}
		spoil(got)
	}
}

// refuses wants ErrSince, and nothing beside it.
func (a asker) refuses(user string, places ...string) {
	a.Helper()
	for _, place := range places {
		c, g, whole, next, errno := a.hub.Since(user, place)
		if c != nil || g != nil || whole || next != "" || errno != api.ErrSince {
			a.Errorf("Z3, P2: Since(%q, %.30q): %s, %q, %v, %q, %d; want ErrSince alone", user, place, shown(c), g, whole, next, errno)
		}
	}
}

func TestExamples(t *testing.T) { // the chapter's, in their order
	a := asker{t, New()}
	a.hub.Put("@a", counts("!r 1 0"))
	a.hub.Put("@a", counts("!r 2 1, !s 0 0"))
	a.asks("@a", "", "!r 2 1, !s 0 0", "", true, "2")
	a.asks("@a", "1", "!r 2 1, !s 0 0", "", false, "2")
	a.asks("@a", "0", "!r 2 1, !s 0 0", "", false, "2")
	a.asks("@a", "2", "", "", false, "2")
	a.refuses("@a", "3", "01", "-1", "x")
	a.asks("@b", "0", "", "", false, "0")
	a.refuses("@b", "1")
	a.hub.Put("@a", counts("!s 0 0"))
	a.asks("@a", "2", "", "!r", false, "3")
	for i := range 51 {
		a.hub.Put("@a", counts("!s 0 0, !t "+strconv.Itoa(i)+" 0"))
	}
	a.asks("@a", "3", "!s 0 0, !t 50 0", "", true, "54")
	a.asks("@a", "4", "!t 50 0", "", false, "54")
	if got := Fold(counts("!r 1 0, !s 2 2"), counts("!s 3 3, !q 1 1"), []string{"!r"}, false); !slices.Equal(got, counts("!q 1 1, !s 3 3")) {
		t.Errorf("Z4: Fold: %s", shown(got))
	}
	if got := Fold(counts("!r 1 0, !r 2 2"), nil, nil, false); !slices.Equal(got, counts("!r 2 2")) {
		t.Errorf("Z4: Fold of a room twice: %s", shown(got))
	}
}

func TestNewHub(t *testing.T) { // Z1
	a := asker{t, New()}
	for _, user := range []string{"", "@a", "\xff", strings.Repeat("u", 1000)} {
		a.asks(user, "", "", "", true, "0")
		a.asks(user, "0", "", "", false, "0")
		a.refuses(user, "1", "2", "50", "51")
		a.refuses(user, wrongPlaces...)
	}
	if got := saved(a.hub); got != "\x00" {
		t.Errorf("Z1, Z5: a new hub is saved as %q", got)
	}
}

func TestPutOfTheSame(t *testing.T) { // Z2: what makes the present sheet is nothing
	a := asker{t, New()}
	a.hub.Put("@a", nil)
	a.hub.Put("@a", []api.Count{})
	a.asks("@a", "", "", "", true, "0")
	for _, list := range []string{"!r 2 1, !s 0 0", "!s 0 0, !r 2 1", "!s 5 5, !r 2 1, !s 0 0", "!r 2 1, !r 2 1, !s 0 0", "!r 0 0, !s 0 0, !r 2 1"} {
		a.hub.Put("@a", counts(list))
		a.asks("@a", "", "!r 2 1, !s 0 0", "", true, "1")
	}
	a.hub.Put("@a", nil)
	a.hub.Put("@a", nil)
	a.asks("@a", "", "", "", true, "2")
	a.asks("@a", "1", "", "!r !s", false, "2")
	a.asks("@a", "0", "", "", false, "2")
}

// TestPutOfWhatThereWas: only the present sheet is asked for; one that was there sooner comes again, with a number of its own.
func TestPutOfWhatThereWas(t *testing.T) { // Z2, Z3
	a := asker{t, New()}
	for i := range 6 {
		a.hub.Put("@a", counts([]string{"!r 1 0", "!r 2 0"}[i%2]))
	}
	a.asks("@a", "", "!r 2 0", "", true, "6")
	for place, changed := range []string{"!r 2 0", "!r 2 0", "", "!r 2 0", "", "!r 2 0", ""} {
		a.asks("@a", strconv.Itoa(place), changed, "", false, "6")
	}
}

func TestPutOfSmallChanges(t *testing.T) { // Z2, Z3: each of a room's numbers, a room more, a room less, another room
	rows := []struct{ then, now, changed, gone string }{
		{"!r 1 0", "!r 2 0", "!r 2 0", ""}, {"!r 1 0", "!r 1 1", "!r 1 1", ""}, {"!r 1 0", "!r 0 1", "!r 0 1", ""}, {"!r 0 0", "!r -1 0", "!r -1 0", ""},
		{"!r 1 0", "!s 1 0", "!s 1 0", "!r"}, {"!s 1 0", "!r 1 0", "!r 1 0", "!s"}, {"!r 1 0", "!r 1 0, !s 0 0", "!s 0 0", ""}, {"!r 1 0, !s 0 0", "!r 1 0", "", "!s"},
		{"!r 1 0, !s 1 0", "!r 1 0, !s 1 1", "!s 1 1", ""}, {"!r 1 0, !s 1 0", "!r 2 0, !s 1 0", "!r 2 0", ""}, {"!b 1 0, !d 1 0", "!a 1 0, !c 1 0, !e 1 0", "!a 1 0, !c 1 0, !e 1 0", "!b !d"},
		{"!a 1 0, !c 1 0, !e 1 0", "!b 1 0, !d 1 0", "!b 1 0, !d 1 0", "!a !c !e"}, {"!a 1 0, !b 1 0, !c 1 0", "!b 1 0", "", "!a !c"},
		{"!r 9223372036854775807 0", "!r -9223372036854775808 0", "!r -9223372036854775808 0", ""}, {"!r 1 2", "!r 2 1", "!r 2 1", ""}, {"!r 4294967296 0", "!r 0 0", "!r 0 0", ""},
		{"!r 1 0", "!r2 1 0", "!r2 1 0", "!r"}, {"!r2 1 0, !r 1 0", "!r 1 0", "", "!r2"}, {"!r 1 0", "!R 1 0", "!R 1 0", "!r"},
	}
	for _, c := range rows {
		a := asker{t, New()}
		a.hub.Put("@a", counts(c.then))
		a.hub.Put("@a", counts(c.now))
		a.asks("@a", "1", c.changed, c.gone, false, "2")
		a.asks("@a", "0", strings.Join(sortedCounts(c.now), ", "), "", false, "2")
	}
}

// sortedCounts are the counts of a list as texts, by rooms.
func sortedCounts(list string) []string {
	l := strings.Split(list, ", ")
	slices.SortFunc(l, func(a, b string) int { return strings.Compare(strings.Fields(a)[0], strings.Fields(b)[0]) })
	return l
}

func TestRoomsRise(t *testing.T) { // byte by byte, a beginning ahead of what goes on from it
	rooms := []string{"b", "\xff", "ab", "a", "", "B", "\x00", "a\x00", "é", "aa", "\x7f", "\x80"}
	rising := []string{"", "\x00", "B", "a", "a\x00", "aa", "ab", "b", "\x7f", "\x80", "é", "\xff"}
	var list, want []api.Count
	for i := range rooms {
		list, want = append(list, api.Count{Room: rooms[i], Unread: 1}), append(want, api.Count{Room: rising[i], Unread: 1})
	}
	h := New()
	h.Put("@a", list)
	for _, place := range []string{"", "0"} {
		if got, _, _, _, _ := h.Since("@a", place); !slices.Equal(got, want) {
			t.Errorf("Z3: Since(%q): %s, want %s", place, shown(got), shown(want))
		}
	}
	if got := Fold(list, nil, nil, false); !slices.Equal(got, want) {
		t.Errorf("Z4: Fold: %s, want %s", shown(got), shown(want))
	}
	if got := Fold(nil, list, rooms, true); !slices.Equal(got, want) {
		t.Errorf("Z4: Fold of all of it: %s, want %s", shown(got), shown(want))
	}
	h.Put("@a", nil)
	if _, gone, _, _, _ := h.Since("@a", "1"); !slices.Equal(gone, rising) {
		t.Errorf("Z3: gone %q, want %q", gone, rising)
	}
	if got := Fold(list, nil, rooms, false); len(got) != 0 {
		t.Errorf("Z4: Fold of rooms that are gone: %s", shown(got))
	}
}

func TestKept(t *testing.T) { // the present one and fifty ahead of it, at each number about
	a := asker{t, New()}
	for last := 1; last <= 160; last++ {
		a.hub.Put("@a", counts("!r "+strconv.Itoa(last)+" 0, !s 0 0"))
		next, whole := strconv.Itoa(last), "!r "+strconv.Itoa(last)+" 0, !s 0 0"
		for place := 0; place <= last; place++ {
			switch {
			case place == last:
				a.asks("@a", next, "", "", false, next)
			case place < last-50 || place == 0:
				a.asks("@a", strconv.Itoa(place), whole, "", place < last-50, next)
			default:
				a.asks("@a", strconv.Itoa(place), "!r "+next+" 0", "", false, next)
			}
		}
		a.asks("@a", "", whole, "", true, next)
		a.refuses("@a", strconv.Itoa(last+1), "0"+next, next+"0", "-"+next, "+"+next, next+" ")
	}
	a.refuses("@a", wrongPlaces...)
	if got := len(a.hub.shelves["@a"].sheets); got != 51 {
		t.Errorf("Z2: %d sheets are kept", got)
	}
}

// TestUsersApart: who has no sheets takes no room, and places are a user's own.
func TestUsersApart(t *testing.T) { // Z3, Z6
	a := asker{t, New()}
	for i := range 3 {
		a.hub.Put("@a", counts("!r "+strconv.Itoa(i)+" 0"))
	}
	a.hub.Put("@b", counts("!s 1 1"))
	a.hub.Put("@c", nil)
	a.asks("@a", "2", "!r 2 0", "", false, "3")
	a.asks("@b", "0", "!s 1 1", "", false, "1")
	a.refuses("@b", "2", "3")
	a.asks("@c", "", "", "", true, "0")
	a.asks("@d", "", "", "", true, "0")
	a.refuses("@c", "1")
	if got := len(a.hub.shelves); got != 2 {
		t.Errorf("of %d users something is kept, want two", got)
	}
}

func TestPlacesOfGreatNumbers(t *testing.T) { // Z2, Z3: no number follows the greatest
	for _, back := range []int{2, 1, 0} {
		last := int64(math.MaxInt64>>10 - back)
		a := asker{t, loaded(t, counted(manySheets("@z", last, 51)))}
		a.asks("@z", "", "!r 50 0", "", true, placeOf(last))
		a.asks("@z", placeOf(last-50), "!r 50 0", "", false, placeOf(last))
		a.asks("@z", placeOf(last-51), "!r 50 0", "", true, placeOf(last))
		a.asks("@z", "0", "!r 50 0", "", true, placeOf(last))
		a.refuses("@z", placeOf(last+1), "9007199254740992", "9223372036854775807", "-9223372036854775808", "18446744073709551615")
		for i := range 4 {
			a.hub.Put("@z", counts("!r "+strconv.Itoa(100+i)+" 0"))
		}
		want := "!r " + strconv.Itoa(100+back-1) + " 0"
		if back == 0 {
			want = "!r 50 0"
		}
		a.asks("@z", "", want, "", true, "9007199254740991")
		a.asks("@z", "9007199254740941", want, "", false, "9007199254740991")
		a.asks("@z", "9007199254740940", want, "", true, "9007199254740991")
		a.asks("@z", "9007199254740991", "", "", false, "9007199254740991")
		a.refuses("@z", "9007199254740992")
	}
}

func TestFold(t *testing.T) { // Z4
	for _, c := range []struct {
		ahead, changed, gone string
		whole                bool
		want                 string
	}{
		{"", "", "", false, ""}, {"", "", "", true, ""}, {"", "", "!r", false, ""},
		{"!r 1 0", "", "", false, "!r 1 0"}, {"!r 1 0", "", "", true, ""}, {"", "!r 1 0", "", false, "!r 1 0"}, {"", "!r 1 0", "", true, "!r 1 0"},
		{"!r 1 0", "", "!r", false, ""}, {"!r 1 0", "", "!s", false, "!r 1 0"}, {"!r 1 0", "!r 2 0", "!r", false, "!r 2 0"}, {"!r 1 0", "!r 2 0", "", false, "!r 2 0"},
		{"!r 1 0", "!r 2 0", "!r", true, "!r 2 0"}, {"", "!r 2 0", "!r", false, "!r 2 0"}, {"!r 1 0, !r 2 0", "", "!r", false, ""},
		{"!r 1 0, !s 1 0", "!r 3 3, !r 4 4", "!s !s !x", false, "!r 4 4"}, {"!s 1 0, !r 2 2, !s 5 5, !q 0 0", "", "", false, "!q 0 0, !r 2 2, !s 5 5"},
		{"!b 1 0, !d 1 0", "!e 1 0, !a 1 0, !c 1 0", "", false, "!a 1 0, !b 1 0, !c 1 0, !d 1 0, !e 1 0"},
		{"!a 1 0, !c 1 0, !e 1 0", "!d 1 0, !b 1 0", "!z !c !a", false, "!b 1 0, !d 1 0, !e 1 0"},
		{"!r 1 0", "!b 1 1, !a 1 1, !b 2 2", "!b !a", true, "!a 1 1, !b 2 2"}, {"!r -1 -2", "!s -9223372036854775808 9223372036854775807", "", false, "!r -1 -2, !s -9223372036854775808 9223372036854775807"},
		{"!r 1 0, !r2 1 0", "!r1 1 0", "!r", false, "!r1 1 0, !r2 1 0"}, {"!r2 1 0", "", "!r !r22 !R2 r2", false, "!r2 1 0"},
	} {
		if got := Fold(counts(c.ahead), counts(c.changed), strings.Fields(c.gone), c.whole); !slices.Equal(got, counts(c.want)) {
			t.Errorf("Z4: Fold(%s; %s; %s; %v): %s, want %s", c.ahead, c.changed, c.gone, c.whole, shown(got), c.want)
		}
		holdFold(t, counts(c.ahead), counts(c.changed), strings.Fields(c.gone), c.whole)
	}
}

func TestSpareRoomIsTheCallers(t *testing.T) { // P3: what stands behind a list that is handed in is not written into
	room := api.Count{Room: "behind", Unread: 7}
	spare := func(list string) []api.Count {
		l := counts(list)
		return append(slices.Clip(l), room, room, room)[:len(l)]
	}
	kept := func(what string, l []api.Count) {
		t.Helper()
		if behind := l[len(l) : len(l)+3]; !slices.Equal(behind, []api.Count{room, room, room}) {
			t.Errorf("P3: %s writes behind the list: %s", what, shown(behind))
		}
	}
	h := New()
	for _, list := range []string{"!r 1 0", "!s 1 0, !r 1 0", "", "!r 1 0, !r 2 0"} {
		l := spare(list)
		h.Put("@a", l)
		kept("Put", l)
		for _, whole := range []bool{false, true} {
			a, c, g := spare(list), spare("!q 1 0, !s 2 0"), []string{"!s", "!r", "!x", "behind"}[:3]
			spoil(told{changed: Fold(a, c, g, whole)})
			kept("Fold", a)
			kept("Fold", c)
			if g[:4][3] != "behind" || !slices.Equal(g, []string{"!s", "!r", "!x"}) {
				t.Errorf("P3: Fold writes into gone, or behind it: %q", g[:4])
			}
		}
	}
}

func TestLongLists(t *testing.T) { // P1: no list is too long for it to end soon
	t.Parallel()
	const many = 200000
	var list []api.Count
	var gone []string
	for i := range many {
		list = append(list, api.Count{Room: strconv.Itoa((i * 7919) % many), Unread: i})
		gone = append(gone, strconv.Itoa((i*104729)%many))
	}
	h := New()
	h.Put("@a", list)
	h.Put("@a", list[1:])
	changed, left, whole, next, errno := h.Since("@a", "1")
	if len(changed) != 0 || !slices.Equal(left, []string{"0"}) || whole || next != "2" || errno != api.OK {
		t.Errorf("Z3: %d changed, gone %q, %v, %q, %d", len(changed), left, whole, next, errno)
	}
	if got := Fold(list, list[:1], gone, false); !slices.Equal(got, list[:1]) {
		t.Errorf("Z4: %d are left", len(got))
	}
	if got := Fold(list, list, nil, false); len(got) != many {
		t.Errorf("Z4: there are %d", len(got))
	}
}
