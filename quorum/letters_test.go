package quorum

import (
	"math"
	"strings"
	"testing"

	"tocsin/api"
	"tocsin/journal"
)

// TestWrongLetters: each is refused, and nothing is changed by it; what is at the edge of it is not refused.
func TestWrongLetters(t *testing.T) { // A3, P2
	good := api.Letter{From: 0, To: 1, Kind: api.Append, Term: 5, Index: 1, Before: 2, Agreed: 1, Entries: row("2a 4b")}
	with := func(change func(l *api.Letter)) api.Letter {
		l := copyOf(good)
		change(&l)
		return l
	}
	to := func(n int) api.Letter { return with(func(l *api.Letter) { l.To = n }) }
	from := func(n int) api.Letter { return with(func(l *api.Letter) { l.From = n }) }
	kind := func(n int) api.Letter { return with(func(l *api.Letter) { l.Kind, l.Entries = n, nil }) }
	term := func(n int) api.Letter { return with(func(l *api.Letter) { l.Term = n }) }
	agreed := func(n int) api.Letter { return with(func(l *api.Letter) { l.Agreed = n }) }
	place := func(kind, index, before int) api.Letter {
		return api.Letter{From: 0, To: 1, Kind: kind, Term: 5, Index: index, Before: before}
	}
	pack := func(before int, log string) api.Letter { return appends(0, 1, 5, min(before, 1), before, 0, log) }
	long := func(n int) api.Letter { return pack(1, "1"+strings.Repeat("x", n)) }
	end := func(index, n int) api.Letter {
		return api.Letter{From: 0, To: 1, Kind: api.Append, Term: 5, Index: index, Before: 1, Entries: many(n, 1)}
	}
	for name, c := range map[string]struct {
		wrong, right []api.Letter
	}{
		"To":   {[]api.Letter{to(0), to(2), to(-1), to(3), to(math.MaxInt)}, []api.Letter{to(1)}},
		"From": {[]api.Letter{from(1), from(3), from(-1), from(math.MinInt), from(math.MaxInt)}, []api.Letter{from(0), from(2)}},
		"Kind": {[]api.Letter{kind(0), kind(5), kind(-1), kind(math.MinInt), kind(math.MaxInt)}, []api.Letter{kind(1), kind(2), kind(3), kind(4)}},
		"Term": {[]api.Letter{term(0), vote(0, 1, 0, true), appends(0, 1, 0, 0, 0, 0, ""), term(-1), vote(0, 1, -1, true), term(3), term(1000000001), term(math.MinInt), term(math.MaxInt)}, []api.Letter{term(4), term(1000000000)}},
		"Index": {
			[]api.Letter{place(1, -1, 1), place(2, -1, 1), place(3, -1, 1), place(4, -1, 1), place(1, 401, 1), place(2, 401, 1), place(3, 401, 1), place(4, 401, 1), place(1, math.MaxInt, 1), place(3, math.MinInt, 1)},
			[]api.Letter{place(1, 400, 1), place(2, 400, 1), place(3, 400, 1), place(4, 400, 1), place(2, 0, 0)},
		},
		"Agreed": {[]api.Letter{agreed(-1), agreed(401), agreed(math.MaxInt), agreed(math.MinInt), with(func(l *api.Letter) { l.Kind, l.Entries, l.Agreed = 4, nil, 401 })}, []api.Letter{agreed(0), agreed(400)}},
		"Before": {
			[]api.Letter{place(1, 1, -1), place(2, 1, -1), place(3, 1, -1), place(4, 1, -1), place(1, 1, 6), place(2, 1, 6), place(3, 1, 6), place(4, 1, 6), place(1, 1, math.MaxInt), place(2, 0, math.MinInt)},
			[]api.Letter{place(1, 1, 5), place(2, 1, 5), place(3, 1, 5), place(4, 1, 5)},
		},
		"one of Index and Before": {
			[]api.Letter{place(1, 1, 0), place(1, 0, 1), place(3, 1, 0), place(3, 0, 1)},
			[]api.Letter{place(1, 0, 0), place(3, 0, 0), place(2, 1, 0), place(2, 0, 1), place(4, 1, 0), place(4, 0, 1)},
		},
		"Entries": {
			[]api.Letter{pack(1, "1 1 1 1 1 1 1 1 1"), with(func(l *api.Letter) { l.Kind = 1 }), with(func(l *api.Letter) { l.Kind = 2 }), with(func(l *api.Letter) { l.Kind = 4 })},
			[]api.Letter{pack(1, "1 1 1 1 1 1 1 1"), pack(0, "")},
		},
		"an entry's term": {
			[]api.Letter{pack(0, "0"), pack(0, "1 0"), pack(1, "6"), pack(1, "1 6"), pack(2, "1"), pack(2, "2 1"), pack(2, "5 4 5"), pack(1, "1000000000"), with(func(l *api.Letter) { l.Entries[0].Term = -1 }), with(func(l *api.Letter) { l.Entries[1].Term = math.MaxInt })},
			[]api.Letter{pack(0, "1"), pack(1, "5"), pack(2, "2 2 5 5"), pack(5, "5")},
		},
		"an entry's data": {[]api.Letter{long(4097), long(10000), pack(1, "1 1 1 1 1 1 1 1"+strings.Repeat("x", 4097))}, []api.Letter{long(4096)}},
		"the end": {
			[]api.Letter{end(400, 1), end(399, 2), end(393, 8)},
			[]api.Letter{end(400, 0), end(399, 1), end(392, 8)},
		},
	} {
		for _, l := range c.wrong {
			h := houseWith(t, 1, 1000, said(3, -1, "2a 2b 3c"))
			h.ticks(6)
			like := h.disk.Copy()
			h.hears(l, api.ErrLetter)
			h.knows(-1, 3)
			h.logs("2a 2b 3c")
			h.tells()
			h.agrees("")
			alike(t, "A3: "+name, h.disk, like)
			h.ticks(5)
			h.tells()
			h.ticks(1) // the clock went on
			h.knows(-1, 4)
		}
		for _, l := range c.right {
			h := houseWith(t, 1, 1000, said(3, -1, "2a 2b 3c"))
			h.hears(l, api.OK)
			h.knows(h.leaderNow(), l.Term)
		}
	}
}

func TestLettersOfAnEarlierTerm(t *testing.T) { // A3
	for _, h := range []*house{houseWith(t, 1, 60, said(5, -1, "3a")), leading(t, 1, 60, said(4, -1, "3a"))} {
		leader, like := h.leaderNow(), h.disk.Copy()
		log := h.node.Log()
		for _, l := range []api.Letter{vote(0, 1, 4, true), answer(0, 1, 4, true, 400), answer(0, 1, 1, false, 0), vote(2, 1, 1, false)} {
			h.hears(l, api.OK)
			h.tells()
		}
		h.hears(ask(0, 1, 4, 400, 4), api.OK)
		h.tells(vote(1, 0, 5, false))
		h.hears(ask(2, 1, 1, 400, 1), api.OK)
		h.tells(vote(1, 2, 5, false))
		h.hears(appends(0, 1, 4, 1, 3, 1, "4x"), api.OK)
		h.tells(answer(1, 0, 5, false, 0))
		h.hears(appends(2, 1, 4, 0, 0, 0, "4x"), api.OK) // were it of this term, it would not be taken
		h.tells(answer(1, 2, 5, false, 0))
		h.knows(leader, 5)
		if !sameLogs(h.node.Log(), log) {
			t.Errorf("A3: the log is %s", shownLog(h.node.Log()))
		}
		h.agrees("")
		alike(t, "A3: an earlier term", h.disk, like)
	}
}

// TestLettersOfALaterTerm: whatever the node does, it follows then, and has not voted.
func TestLettersOfALaterTerm(t *testing.T) { // A3
	stands := func() *house {
		h := houseWith(t, 1, 60, said(4, -1, "3a"))
		h.ticks(12)
		h.node.Letters()
		return h
	}
	follows := func() *house {
		h := houseWith(t, 1, 60, said(5, 0, "3a"))
		h.hears(appends(0, 1, 5, 1, 3, 0, ""), api.OK)
		h.node.Letters()
		return h
	}
	for _, make := range []func() *house{stands, follows, func() *house { return leading(t, 1, 60, said(4, -1, "3a")) }} {
		for _, l := range []api.Letter{vote(0, 1, 7, true), vote(0, 1, 7, false), answer(2, 1, 7, true, 0), answer(2, 1, 7, true, 400), answer(2, 1, 7, false, 0)} {
			h := make()
			like := houseOn(t, 1, h.disk.Copy())
			h.hears(l, api.OK)
			h.knows(-1, 7)
			h.tells()
			h.refuses("x", api.ErrLeader)
			_, _, ahead, _ := journal.Open(like.disk)
			_, _, behind, _ := journal.Open(h.disk.Copy())
			if len(behind) != len(ahead)+1 || string(behind[len(ahead)]) != ballot(7, -1) {
				t.Errorf("A3: behind %s there are %d records more", shown(l), len(behind)-len(ahead))
			}
			h.hears(vote(2, 1, 7, true), api.OK) // it stands no more
			h.knows(-1, 7)
			h.hears(ask(2, 1, 7, 9, 5), api.OK)
			h.tells(vote(1, 2, 7, true))
		}
		h := make()
		h.hears(ask(2, 1, 9, 9, 8), api.OK)
		h.tells(vote(1, 2, 9, true))
		h.knows(-1, 9)
		h = make()
		h.hears(ask(2, 1, 9, 1, 2), api.OK) // it is behind: no vote, but the term
		h.tells(vote(1, 2, 9, false))
		h.knows(-1, 9)
		h = make()
		h.hears(appends(2, 1, 6, 0, 0, 0, "6x"), api.OK)
		h.tells(answer(1, 2, 6, true, 1))
		h.knows(2, 6)
		h.logs("6x")
	}
}

// TestVotes: whom a node votes for.
func TestVotes(t *testing.T) { // A4
	for _, c := range []struct {
		vote          int
		log           string
		index, before int
		yes           bool
	}{
		{-1, "", 0, 0, true},
		{-1, "", 3, 2, true},
		{-1, "1 2", 2, 2, true},
		{-1, "1 2", 3, 2, true},
		{-1, "1 2", 1, 2, false},
		{-1, "1 2", 1, 3, true},
		{-1, "1 2", 400, 1, false},
		{-1, "1 2", 0, 0, false},
		{-1, "4 4 4", 3, 4, true},
		{-1, "4 4 4", 2, 4, false},
		{0, "1 2", 2, 2, true},
		{0, "1 2", 1, 2, false},
		{1, "1 2", 2, 2, false},
		{2, "1 2", 400, 4, false},
	} {
		h := houseWith(t, 1, 60, said(4, c.vote, c.log))
		like := h.disk.Copy()
		h.hears(ask(0, 1, 4, c.index, c.before), api.OK)
		h.tells(vote(1, 0, 4, c.yes))
		h.knows(-1, 4)
		if c.yes && c.vote == -1 {
			h.keeps(said(4, -1, c.log), ballot(4, 0))
		} else {
			alike(t, "A4: no vote is kept", h.disk, like)
		}
		h.hears(ask(0, 1, 4, c.index, c.before), api.OK) // the same once more
		h.tells(vote(1, 0, 4, c.yes))
		h.hears(ask(2, 1, 4, 400, 4), api.OK) // another one
		h.tells(vote(1, 2, 4, c.vote == 2 || c.vote == -1 && !c.yes))
	}
}

// TestWhoStandsOrLeadsVotesForNoOther: in this term.
func TestWhoStandsOrLeadsVotesForNoOther(t *testing.T) { // A4
	h := newHouse(t, 0, 60)
	h.ticks(10)
	h.node.Letters()
	h.hears(ask(1, 0, 1, 400, 1), api.OK)
	h.tells(vote(0, 1, 1, false))
	h.hears(vote(2, 0, 1, true), api.OK)
	h.node.Letters()
	h.hears(ask(1, 0, 1, 400, 1), api.OK)
	h.tells(vote(0, 1, 1, false))
	h.knows(0, 1)
	h.keeps("", ballot(1, 0), enters(1, row("1")[0]))
	h = houseOn(t, 0, h.disk) // one that is opened anew has voted for itself
	h.hears(ask(1, 0, 1, 400, 1), api.OK)
	h.tells(vote(0, 1, 1, false))
	h.hears(vote(1, 0, 1, true), api.OK)
	h.knows(-1, 1)
}

// TestWhoKnowsALeaderMayVote: if it has not voted.
func TestWhoKnowsALeaderMayVote(t *testing.T) { // A4
	h := newHouse(t, 0, 60)
	h.hears(appends(1, 0, 3, 0, 0, 0, ""), api.OK)
	h.node.Letters()
	h.hears(ask(2, 0, 3, 0, 0), api.OK)
	h.tells(vote(0, 2, 3, true))
	h.knows(1, 3)
}

// TestLeads: what a new leader does.
func TestLeads(t *testing.T) { // A4
	h := houseWith(t, 2, 60, said(3, -1, "1a 2b 3c"))
	h.hears(appends(1, 2, 3, 3, 3, 2, ""), api.OK)
	h.ticks(14)
	h.node.Letters()
	h.ticks(2)
	for _, l := range []api.Letter{vote(0, 2, 4, false), vote(1, 2, 4, false), vote(0, 2, 3, true), answer(0, 2, 4, true, 3)} {
		h.hears(l, api.OK)
		h.knows(-1, 4)
		h.tells()
	}
	h.hears(vote(1, 2, 4, true), api.OK)
	h.knows(2, 4)
	h.logs("1a 2b 3c 4")
	h.tells(appends(2, 0, 4, 3, 3, 2, "4"), appends(2, 1, 4, 3, 3, 2, "4"))
	h.keeps(said(3, -1, "1a 2b 3c"), ballot(4, 2), enters(4, row("4")[0]))
	h.hears(vote(0, 2, 4, true), api.OK) // it leads already
	h.hears(vote(1, 2, 4, true), api.OK)
	h.logs("1a 2b 3c 4")
	h.tells()
	h.ticks(2)
	h.tells()
	h.ticks(1) // the clock was 0
	h.tells(appends(2, 0, 4, 3, 3, 2, "4"), appends(2, 1, 4, 3, 3, 2, "4"))
}

// TestLeadsAnew: of an earlier time as a leader nothing is left.
func TestLeadsAnew(t *testing.T) { // A4
	h := leading(t, 0, 60, "")
	h.proposes("a", 2, 1)
	h.hears(answer(1, 0, 1, true, 1), api.OK)
	h.hears(answer(2, 0, 1, true, 2), api.OK)
	h.hears(appends(1, 0, 2, 2, 1, 2, "2b 2c"), api.OK)
	h.ticks(10)
	h.node.Letters()
	h.hears(vote(2, 0, 3, true), api.OK)
	h.tells(appends(0, 1, 3, 4, 2, 2, "3"), appends(0, 2, 3, 4, 2, 2, "3"))
	h.hears(answer(1, 0, 3, false, 4), api.OK)
	h.tells(appends(0, 1, 3, 3, 2, 2, "2c 3"))
	h.hears(answer(2, 0, 3, false, 0), api.OK) // it had two, then
	h.tells(appends(0, 2, 3, 0, 0, 2, "1 1a 2b 2c 3"))
	h.agrees("1 1a")
}

// TestAppends: what becomes of a log, what is agreed on, and what is answered.
func TestAppends(t *testing.T) { // A5
	for name, c := range map[string]struct {
		log, agreed string // what was, and what of it was agreed on
		l           api.Letter
		behind      string
		more        string // what is agreed on then
		answer      api.Letter
		kept        []string
	}{
		"nothing":                   {"", "", appends(2, 1, 5, 0, 0, 0, ""), "", "", answer(1, 2, 5, true, 0), nil},
		"the first":                 {"", "", appends(2, 1, 5, 0, 0, 0, "1a"), "1a", "", answer(1, 2, 5, true, 1), []string{enters(1, row("1a")[0])}},
		"some":                      {"1a", "", appends(2, 1, 5, 1, 1, 0, "2b 5"), "1a 2b 5", "", answer(1, 2, 5, true, 3), []string{enters(2, row("2b")[0]), enters(3, row("5")[0])}},
		"what is there":             {"1a 2b 3c", "", appends(2, 1, 5, 0, 0, 0, "1a 2b"), "1a 2b 3c", "", answer(1, 2, 5, true, 2), nil},
		"there, with other data":    {"1a 2b 3c", "", appends(2, 1, 5, 0, 0, 0, "1x 2y"), "1a 2b 3c", "", answer(1, 2, 5, true, 2), nil},
		"there, and more":           {"1a 2b", "", appends(2, 1, 5, 0, 0, 0, "1a 2b 2c"), "1a 2b 2c", "", answer(1, 2, 5, true, 3), []string{enters(3, row("2c")[0])}},
		"another one":               {"1a 2b 3c", "", appends(2, 1, 5, 0, 0, 0, "1a 3x"), "1a 3x", "", answer(1, 2, 5, true, 2), []string{enters(2, row("3x")[0])}},
		"another one, and more":     {"1a 2b 3c 3d", "", appends(2, 1, 5, 1, 1, 0, "3x 3y"), "1a 3x 3y", "", answer(1, 2, 5, true, 3), []string{enters(2, row("3x")[0]), enters(3, row("3y")[0])}},
		"all others":                {"1a 2b 3c", "", appends(2, 1, 5, 0, 0, 0, "4x"), "4x", "", answer(1, 2, 5, true, 1), []string{enters(1, row("4x")[0])}},
		"no entry cuts nothing off": {"1a 2b 3c", "", appends(2, 1, 5, 1, 1, 0, ""), "1a 2b 3c", "", answer(1, 2, 5, true, 1), nil},
		"behind the end":            {"1a 2b", "", appends(2, 1, 5, 3, 2, 3, "2x"), "1a 2b", "", answer(1, 2, 5, false, 2), nil},
		"far behind the end":        {"1a 2b", "", appends(2, 1, 5, 30, 2, 3, ""), "1a 2b", "", answer(1, 2, 5, false, 2), nil},
		"behind the end of nothing": {"", "", appends(2, 1, 5, 1, 2, 1, ""), "", "", answer(1, 2, 5, false, 0), nil},
		"another one ahead":         {"1a 2b 3c", "", appends(2, 1, 5, 2, 1, 3, "3c"), "1a 2b 3c", "", answer(1, 2, 5, false, 1), nil},
		"another first one":         {"1a 2b 3c", "", appends(2, 1, 5, 1, 2, 3, ""), "1a 2b 3c", "", answer(1, 2, 5, false, 0), nil},
		"agreed":                    {"1a 2b 3c", "", appends(2, 1, 5, 3, 3, 2, ""), "1a 2b 3c", "1a 2b", answer(1, 2, 5, true, 3), nil},
		"agreed, all":               {"1a 2b 3c", "", appends(2, 1, 5, 3, 3, 3, ""), "1a 2b 3c", "1a 2b 3c", answer(1, 2, 5, true, 3), nil},
		"agreed, and more":          {"1a 2b 3c", "", appends(2, 1, 5, 3, 3, 400, ""), "1a 2b 3c", "1a 2b 3c", answer(1, 2, 5, true, 3), nil},
		"agreed, as far as it goes": {"1a 2b 3c", "", appends(2, 1, 5, 1, 1, 3, "2b"), "1a 2b 3c", "1a 2b", answer(1, 2, 5, true, 2), nil},
		"agreed, with no entry":     {"1a 2b 3c", "", appends(2, 1, 5, 1, 1, 3, ""), "1a 2b 3c", "1a", answer(1, 2, 5, true, 1), nil},
		"agreed, and new":           {"1a", "", appends(2, 1, 5, 1, 1, 2, "4b 5c"), "1a 4b 5c", "1a 4b", answer(1, 2, 5, true, 3), []string{enters(2, row("4b")[0]), enters(3, row("5c")[0])}},
		"agreed no less":            {"1a 2b 3c", "1a 2b", appends(2, 1, 5, 3, 3, 1, ""), "1a 2b 3c", "", answer(1, 2, 5, true, 3), nil},
		"agreed, and one behind":    {"1a 2b 3c", "1a 2b", appends(2, 1, 5, 1, 1, 2, "2b 4x"), "1a 2b 4x", "", answer(1, 2, 5, true, 3), []string{enters(3, row("4x")[0])}},
		"agreed, and all there":     {"1a 2b 3c", "1a 2b 3c", appends(2, 1, 5, 0, 0, 3, "1a 2b 3c"), "1a 2b 3c", "", answer(1, 2, 5, true, 3), nil},
		"agreed, with a wrong head": {"1a 2b 3c", "1a 2b", appends(2, 1, 5, 2, 1, 3, "4x"), "1a 2b 3c", "", answer(1, 2, 5, false, 1), nil},
		"at the last place":         {"1a", "", appends(2, 1, 5, 400, 1, 0, ""), "1a", "", answer(1, 2, 5, false, 1), nil},
	} {
		h := houseWith(t, 1, 60, said(5, -1, c.log))
		if c.agreed != "" {
			n := len(row(c.agreed))
			h.hears(appends(0, 1, 5, n, row(c.log)[n-1].Term, n, ""), api.OK)
			h.agrees(c.agreed)
			h.node.Letters()
		}
		t.Log(name)
		h.hears(c.l, api.OK)
		h.logs(c.behind)
		h.agrees(c.more)
		h.knows(2, 5)
		h.tells(c.answer)
		h.keeps(said(5, -1, c.log), c.kept...)
	}
}

// TestAppendsThatMayNotBe: nothing is changed by them, but the term.
func TestAppendsThatMayNotBe(t *testing.T) { // A5
	h := houseWith(t, 1, 60, said(5, -1, "1a 2b 3c"))
	h.hears(appends(0, 1, 5, 2, 2, 2, ""), api.OK)
	h.node.Letters()
	like := h.disk.Copy()
	for _, l := range []api.Letter{
		appends(2, 1, 5, 0, 0, 0, "2x"), appends(2, 1, 5, 0, 0, 0, "1a 3x"), appends(2, 1, 5, 1, 1, 0, "1b"), appends(2, 1, 5, 0, 0, 3, "3x 3y 3z"),
		appends(2, 1, 5, 1, 4, 0, "5x"), // nor would it fit
	} {
		h.hears(l, api.ErrLetter)
		h.knows(0, 5)
		h.logs("1a 2b 3c")
		h.tells()
		alike(t, "A5: what may not be", h.disk, like)
	}
	h.agrees("1a 2b")
	h.hears(appends(2, 1, 6, 1, 1, 0, "4x"), api.ErrLetter)
	h.knows(-1, 6)
	h.logs("1a 2b 3c")
	h.tells()
	h.keeps(said(5, -1, "1a 2b 3c"), ballot(6, -1))
	// a leader
	h = leading(t, 1, 60, said(4, -1, "1a"))
	h.ticks(2)
	like = h.disk.Copy()
	h.hears(appends(2, 1, 5, 0, 0, 0, ""), api.ErrLetter)
	h.hears(appends(0, 1, 5, 9, 5, 9, ""), api.ErrLetter)
	h.knows(1, 5)
	h.tells()
	alike(t, "A5: a leader", h.disk, like)
	h.ticks(1)
	h.tells(appends(1, 0, 5, 1, 1, 0, "5"), appends(1, 2, 5, 1, 1, 0, "5"))
	h.proposes("x", 3, 5)
}

// TestWhoStandsFollowsALeader: of its own term.
func TestWhoStandsFollowsALeader(t *testing.T) { // A5
	h := houseWith(t, 0, 60, said(4, -1, "1a"))
	h.ticks(10)
	h.node.Letters()
	h.hears(appends(2, 0, 5, 5, 5, 0, ""), api.OK)
	h.knows(2, 5)
	h.tells(answer(0, 2, 5, false, 1))
	h.hears(vote(1, 0, 5, true), api.OK)
	h.knows(2, 5)
	h.hears(appends(1, 0, 5, 1, 1, 0, ""), api.OK) // whoever says so leads
	h.knows(1, 5)
}

// TestAnswers: what a leader makes of them.
func TestAnswers(t *testing.T) { // A6
	h := leading(t, 0, 60, said(4, -1, "1a 1b 3c 4d")) // and 5 at the place 5
	h.proposes("x", 6, 5)
	h.node.Letters()
	h.hears(answer(1, 0, 5, true, 7), api.ErrLetter)
	h.hears(answer(1, 0, 5, true, 400), api.ErrLetter)
	h.tells()
	h.hears(answer(1, 0, 5, true, 0), api.OK) // has is no greater: nothing is sent
	h.tells()
	h.hears(answer(1, 0, 5, true, 2), api.OK)
	h.tells(appends(0, 1, 5, 2, 1, 0, "3c 4d 5 5x"))
	h.agrees("") // those of an earlier term alone are not agreed on
	h.hears(answer(1, 0, 5, true, 4), api.OK)
	h.tells(appends(0, 1, 5, 4, 4, 0, "5 5x"))
	h.agrees("")
	h.hears(answer(1, 0, 5, true, 3), api.OK) // an old one
	h.tells()
	h.ticks(3)
	h.tells(appends(0, 1, 5, 4, 4, 0, "5 5x"), appends(0, 2, 5, 4, 4, 0, "5 5x"))
	h.hears(answer(1, 0, 5, true, 5), api.OK)
	h.tells(appends(0, 1, 5, 5, 5, 5, "5x"))
	h.agrees("1a 1b 3c 4d 5")
	h.hears(answer(2, 0, 5, true, 5), api.OK)
	h.tells(appends(0, 2, 5, 5, 5, 5, "5x"))
	h.agrees("")
	h.hears(answer(2, 0, 5, true, 6), api.OK)
	h.tells()
	h.agrees("5x")
	h.hears(answer(1, 0, 5, true, 1), api.OK)
	h.hears(answer(1, 0, 5, true, 6), api.OK)
	h.tells()
	h.agrees("")
	h.ticks(3)
	h.tells(appends(0, 1, 5, 6, 5, 6, ""), appends(0, 2, 5, 6, 5, 6, ""))
}

// TestAnswersOfNo: the leader goes back till it finds what the other one has.
func TestAnswersOfNo(t *testing.T) { // A6
	h := leading(t, 0, 60, said(4, -1, "1a 1b 3c 4d")) // next is 5
	for _, c := range []struct{ index, next int }{{9, 4}, {400, 3}, {0, 1}, {0, 1}, {400, 1}} {
		h.hears(answer(1, 0, 5, false, c.index), api.OK)
		log := h.node.Log()
		want := api.Letter{From: 0, To: 1, Kind: api.Append, Term: 5, Index: c.next - 1, Entries: log[c.next-1:]}
		if c.next > 1 {
			want.Before = log[c.next-2].Term
		}
		h.tells(want)
	}
	h.hears(answer(2, 0, 5, false, 1), api.OK) // at once as far as it says
	h.tells(appends(0, 2, 5, 1, 1, 0, "1b 3c 4d 5"))
	h.hears(answer(2, 0, 5, true, 3), api.OK)
	h.tells(appends(0, 2, 5, 3, 3, 0, "4d 5"))
	for range 3 {
		h.hears(answer(2, 0, 5, false, 0), api.OK) // not behind what it has
		h.tells(appends(0, 2, 5, 3, 3, 0, "4d 5"))
	}
	h.hears(answer(2, 0, 5, true, 5), api.OK)
	h.tells()
	h.hears(answer(2, 0, 5, false, 5), api.OK)
	h.tells(appends(0, 2, 5, 5, 5, 5, ""))
	h.agrees("1a 1b 3c 4d 5")
}

// TestAnswersToWhoDoesNotLead: nothing.
func TestAnswersToWhoDoesNotLead(t *testing.T) { // A6
	for _, ticks := range []int{0, 12} {
		h := houseWith(t, 1, 60, said(5, -1, "1a"))
		h.ticks(ticks)
		h.node.Letters()
		_, term := h.node.Leader()
		like := h.disk.Copy()
		for _, l := range []api.Letter{answer(0, 1, term, true, 400), answer(0, 1, term, true, 1), answer(0, 1, term, false, 0)} {
			h.hears(l, api.OK)
		}
		h.tells()
		h.agrees("")
		h.knows(-1, term)
		alike(t, "A6: who does not lead", h.disk, like)
	}
}

// TestPacks: a letter has eight entries at most, from next on.
func TestPacks(t *testing.T) { // A6
	h := leading(t, 1, 200, said(3, -1, "1a 1b 1c 2d 2e 2f 2g 2h 3i 3j"))
	h.hears(answer(2, 1, 4, false, 0), api.OK)
	h.tells(appends(1, 2, 4, 0, 0, 0, "1a 1b 1c 2d 2e 2f 2g 2h"))
	h.hears(answer(2, 1, 4, true, 2), api.OK)
	h.tells(appends(1, 2, 4, 2, 1, 0, "1c 2d 2e 2f 2g 2h 3i 3j"))
	h.hears(answer(2, 1, 4, true, 3), api.OK)
	h.tells(appends(1, 2, 4, 3, 1, 0, "2d 2e 2f 2g 2h 3i 3j 4"))
	h.hears(answer(2, 1, 4, true, 10), api.OK)
	h.tells(appends(1, 2, 4, 10, 3, 0, "4"))
	h.ticks(3)
	h.tells(appends(1, 0, 4, 10, 3, 0, "4"), appends(1, 2, 4, 10, 3, 0, "4"))
}
