package session

import (
	"fmt"
	"math"
	"math/rand"
	"strings"
	"sync"
	"testing"

	"tocsin/api"
	"tocsin/wire"
)

// A pair is a keeper and its model, of which the same is asked.
type pair struct {
	testing.TB
	keeper *Keeper
	model  *model
	slips  []slip   // texts that are tried
	calls  []string // what was called, for who reads of a fault
}

func newPair(t testing.TB, key []byte, life, burst, rate int) *pair {
	t.Helper()
	return &pair{TB: t, keeper: newKeeper(t, key, life, burst, rate), model: newModel(key, life, burst, rate)}
}

// hold wants that both have answered the same, and that they are alike behind it.
func (p *pair) hold(promise, what string, got, want any) {
	p.Helper()
	p.calls = append(p.calls, what)
	m := p.model
	if got != want {
		p.Fatalf("%s: New(%d, %d, %d); %s: %#v, want %#v", promise, m.life, m.burst, m.rate, strings.Join(p.calls, "; "), got, want)
	}
	if got, want := saved(p.keeper), m.save(); got != want {
		p.Fatalf("%s, K6: New(%d, %d, %d); %s: it is saved as\n%q, want\n%q", promise, m.life, m.burst, m.rate, strings.Join(p.calls, "; "), got, want)
	}
}

// An answer is all that a call gives.
type answer struct {
	text  string
	errno api.Errno
	many  int
	yes   bool
}

func (p *pair) issue(user string, now int) {
	p.Helper()
	var got, want answer
	got.text, got.errno = p.keeper.Issue(user, now)
	want.text, want.errno = p.model.issue(user, now)
	p.hold("K2", fmt.Sprintf("Issue(%.5q, %d)", user, now), got, want)
	if want.errno == api.OK {
		g := p.model.gifts[len(p.model.gifts)-1]
		p.slips = append(p.slips, slip{got.text, true, g.user, g.until, g.number})
	}
}

func (p *pair) check(s slip, now int) {
	p.Helper()
	var got, want answer
	got.text, got.errno = p.keeper.Check(s.text, now)
	want.text, want.errno = p.model.check(s, now)
	p.hold("K3", fmt.Sprintf("Check(%v of %q, until %d, %d, at %d)", s.sound, s.user, s.until, s.number, now), got, want)
}

func (p *pair) revoke(s slip, now int) {
	p.Helper()
	got, want := answer{errno: p.keeper.Revoke(s.text, now)}, answer{errno: p.model.revoke(s, now)}
	p.hold("K4", fmt.Sprintf("Revoke(%v of %q, until %d, %d, at %d)", s.sound, s.user, s.until, s.number, now), got, want)
}

func (p *pair) revokeAll(user string, now int) {
	p.Helper()
	got, want := answer{many: p.keeper.RevokeAll(user, now)}, answer{many: p.model.revokeAll(user, now)}
	p.hold("K4", fmt.Sprintf("RevokeAll(%.5q, %d)", user, now), got, want)
}

func (p *pair) allow(user string, now int) answer {
	p.Helper()
	var got, want answer
	got.yes, got.many = p.keeper.Allow(user, now)
	want.yes, want.many = p.model.allow(user, now)
	p.hold("K5", fmt.Sprintf("Allow(%.5q, %d)", user, now), got, want)
	return got
}

// reload goes on with the keeper that is loaded from what is saved.
func (p *pair) reload() {
	p.Helper()
	k, errno := Load(p.model.key, wire.NewReader([]byte(saved(p.keeper))))
	if errno != api.OK {
		p.Fatalf("K6: %s: Load: %d", strings.Join(p.calls, "; "), errno)
	}
	p.keeper = k
	p.hold("K6", "Save, Load", nil, nil)
}

// forge adds texts to those that are tried: some never given, some that are no tokens.
func (p *pair) forge(rnd *rand.Rand) {
	m := p.model
	user := userOf(rnd)
	until, n := m.latest+rnd.Intn(2*m.life+3)-m.life-1, rnd.Intn(len(m.gifts)+3)
	p.slips = append(p.slips, handSlip(m.key, user, until, n))
	bad := slip{text: byHand([]byte("no key of this one"), user, int64(until), int64(n))}
	if len(p.slips) > 0 && rnd.Intn(2) == 0 {
		bad.text = bent(rnd, p.slips[rnd.Intn(len(p.slips))].text)
	}
	p.slips = append(p.slips, bad)
}

// bent is another text than a token's.
func bent(rnd *rand.Rand, text string) string {
	if len(text) == 0 {
		return "A"
	}
	i := rnd.Intn(len(text))
	switch rnd.Intn(3) {
	case 0:
		return text[:i]
	case 1:
		return text + text[i:i+1]
	}
	sign := "A"
	if text[i] == 'A' {
		sign = "B"
	}
	return text[:i] + sign + text[i+1:]
}

func userOf(rnd *rand.Rand) string {
	users := []string{"@a", "@b", "@ab", "@", "\xff", strings.Repeat("u", 60), "@a", "@b", "@a", "", strings.Repeat("u", 61)}
	return users[rnd.Intn(len(users))]
}

// timeOf is a time about the latest, or one that may not be.
func (p *pair) timeOf(rnd *rand.Rand) int {
	switch rnd.Intn(12) {
	case 0:
		return []int{-1, 1000000001, math.MinInt, math.MaxInt}[rnd.Intn(4)]
	case 1:
		return rnd.Intn(p.model.latest + 1)
	case 2:
		return p.model.latest + rnd.Intn(p.model.life+2)
	case 3, 4, 5:
		return p.model.latest + rnd.Intn(3)
	}
	return p.model.latest
}

// step calls something by chance.
func (p *pair) step(rnd *rand.Rand) {
	p.Helper()
	now := p.timeOf(rnd)
	switch what := rnd.Intn(20); {
	case what < 4 || len(p.slips) == 0:
		p.issue(userOf(rnd), now)
	case what < 8:
		p.check(p.slips[rnd.Intn(len(p.slips))], now)
	case what < 10:
		p.revoke(p.slips[rnd.Intn(len(p.slips))], now)
	case what < 11:
		p.revokeAll(userOf(rnd), now)
	case what < 17:
		p.allow(userOf(rnd), now)
	case what < 18:
		p.reload()
	default:
		p.forge(rnd)
	}
}

// TestRowsByChance: rows of calls of any order, three keepers beside one another, of one key and of two, held against models (P4, K6, K7).
func TestRowsByChance(t *testing.T) {
	t.Parallel()
	for seed := range int64(300) {
		rnd := rand.New(rand.NewSource(seed))
		life, burst, rate := 1+rnd.Intn(12), 1+rnd.Intn(4), 1+rnd.Intn(5)
		pairs := []*pair{newPair(t, noughts, life, burst, rate), newPair(t, noughts, 1+rnd.Intn(12), burst, rate), newPair(t, otherKey, life, burst, rate)}
		for range 240 {
			pairs[rnd.Intn(len(pairs))].step(rnd)
		}
	}
}

// TestShortRows: all rows of six calls from a few.
func TestShortRows(t *testing.T) {
	t.Parallel()
	first, second := handSlip(noughts, "@a", 3, 1), handSlip(noughts, "@a", 5, 1)
	steps := []func(p *pair){
		func(p *pair) { p.issue("@a", 0) },
		func(p *pair) { p.issue("@a", 2) },
		func(p *pair) { p.check(first, 2) },
		func(p *pair) { p.revoke(second, 3) },
		func(p *pair) { p.revokeAll("@a", 1) },
		func(p *pair) { p.allow("@a", 1) },
		func(p *pair) { p.allow("@a", 4) },
		func(p *pair) { p.reload() },
	}
	const length = 5
	rows := 1
	for range length {
		rows *= len(steps)
	}
	for row := range rows {
		p := newPair(t, noughts, 3, 2, 2)
		for range length {
			steps[row%len(steps)](p)
			row /= len(steps)
		}
		for now := range 6 {
			p.check(first, now)
			p.check(second, now)
		}
	}
}

// TestAnyTextIsSomebodysIfGiven: of all users, untils and numbers about, those are good that were given, whatever is signed (K7).
func TestAnyTextIsSomebodysIfGiven(t *testing.T) {
	t.Parallel()
	p := newPair(t, noughts, 6, 2, 3)
	for i, user := range []string{"@a", "@b", "@a", "@c", "@b", "@a"} {
		p.issue(user, i)
	}
	p.revoke(p.slips[2], 5)
	p.revokeAll("@b", 5)
	for now := 5; now < 12; now++ {
		for _, user := range []string{"@a", "@b", "@c", "@", "@d"} {
			for until := -1; until < 15; until++ {
				for n := -1; n < 9; n++ {
					p.check(handSlip(noughts, user, until, n), now)
				}
			}
			p.calls = nil
		}
	}
}

// TestToldWait: with every burst and rate of a few, who asks as long after as it was told is let, and one tick sooner is not (K5, K7).
func TestToldWait(t *testing.T) {
	t.Parallel()
	for burst := 1; burst <= 5; burst++ {
		for rate := 1; rate <= 6; rate++ {
			rnd := rand.New(rand.NewSource(int64(100*burst + rate)))
			p := newPair(t, noughts, 10, burst, rate)
			now := 0
			for range 400 {
				now += rnd.Intn(2) * rnd.Intn(rate+2)
				a := p.allow("@a", now)
				if a.yes {
					continue
				}
				if a.many < 1 || a.many > rate {
					p.Fatalf("K5: burst %d, rate %d: a wait of %d at %d", burst, rate, a.many, now)
				}
				bytes := []byte(saved(p.keeper))
				for early := 1; early <= a.many; early++ {
					k, _ := Load(noughts, wire.NewReader(bytes))
					if yes, wait := k.Allow("@a", now+a.many-early); yes || wait != early {
						p.Fatalf("K5: burst %d, rate %d: at %d a wait of %d was told; %d sooner: %v, %d", burst, rate, now, a.many, early, yes, wait)
					}
				}
				for late := range 3 {
					k, _ := Load(noughts, wire.NewReader(bytes))
					if yes, wait := k.Allow("@a", now+a.many+late); !yes || wait != 0 {
						p.Fatalf("K5, K7: burst %d, rate %d: at %d a wait of %d was told; %d later: %v, %d", burst, rate, now, a.many, late, yes, wait)
					}
				}
			}
		}
	}
}

// TestLetAtMost: in any D ticks a user is let at most burst and D by rate and one times, and, asking all the time, no less than burst and D by rate from the beginning (K7).
func TestLetAtMost(t *testing.T) {
	t.Parallel()
	for burst := 1; burst <= 5; burst++ {
		for rate := 1; rate <= 6; rate++ {
			for seed := range int64(6) {
				rnd := rand.New(rand.NewSource(seed))
				k := newKeeper(t, noughts, 10, burst, rate)
				const ticks = 120
				var sums [ticks + 1]int // how often it was let ahead of a tick
				for now := range ticks {
					sums[now+1] = sums[now]
					asks := burst + 2
					if seed > 0 {
						asks = rnd.Intn(3) * rnd.Intn(burst+2)
					}
					for range asks {
						if yes, _ := k.Allow("@a", now); yes {
							sums[now+1]++
						}
					}
				}
				for from := range ticks {
					for to := from + 1; to <= ticks; to++ {
						if let, most := sums[to]-sums[from], burst+(to-from)/rate+1; let > most {
							t.Fatalf("K7: burst %d, rate %d: let %d times from %d on ahead of %d, at most %d", burst, rate, let, from, to, most)
						}
					}
				}
				for to := 1; seed == 0 && to <= ticks; to++ {
					if want := burst + (to-1)/rate; sums[to] != want {
						t.Fatalf("K5: burst %d, rate %d: who asks all the time is let %d times ahead of %d, want %d", burst, rate, sums[to], to, want)
					}
				}
			}
		}
	}
}

// TestKeepersAtOneTime: keepers have nothing to do with one another (P4).
func TestKeepersAtOneTime(t *testing.T) {
	t.Parallel()
	var all sync.WaitGroup
	for seed := range int64(8) {
		all.Go(func() {
			rnd := rand.New(rand.NewSource(seed))
			k, m := newKeeper(t, noughts, 10, 2, 3), newModel(noughts, 10, 2, 3)
			for range 500 {
				user, now := userOf(rnd), rnd.Intn(1000)
				got, errno := k.Issue(user, now)
				if want, wantErrno := m.issue(user, now); got != want || errno != wantErrno {
					t.Errorf("P4: Issue(%q, %d): %q, %d; want %q, %d", user, now, got, errno, want, wantErrno)
				}
			}
			if saved(k) != m.save() {
				t.Error("P4: a keeper, while others are asked, is saved otherwise")
			}
		})
	}
	all.Wait()
}

// TestWhatIsOverIsNotKept: of many users and tokens over a long time, no more is held than what can still matter.
func TestWhatIsOverIsNotKept(t *testing.T) {
	t.Parallel()
	k := newKeeper(t, noughts, 50, 3, 4)
	for now := range 60000 {
		user := fmt.Sprint("@", now)
		token, _ := k.Issue(user, now)
		k.Allow(user, now)
		if now%3 == 0 {
			k.Revoke(token, now)
		}
		if now%3 == 1 {
			k.RevokeAll(user, now)
		}
		tokens, users, dues := len(k.tokens.shelf.rows), len(k.tokens.users), len(k.dues.rows)
		if tokens > 50 || users != tokens || dues > 12 {
			t.Fatalf("at %d there are %d tokens of %d users, and %d dues", now, tokens, users, dues)
		}
	}
}

// TestManyLiveOnes: how long a call takes does not grow with what is live, but for Save and Load.
func TestManyLiveOnes(t *testing.T) {
	t.Parallel()
	const many = 100000
	k := newKeeper(t, noughts, 1000000, 100, 1000000)
	for i := range many {
		user := fmt.Sprint("@", i)
		token, errno := k.Issue(user, i)
		if yes, _ := k.Allow(user, i); !yes || errno != api.OK {
			t.Fatalf("%d: %v, %d", i, yes, errno)
		}
		if got, errno := k.Check(token, i); got != user || errno != api.OK {
			t.Fatalf("K3: %q, %d", got, errno)
		}
	}
	for i := range many {
		if got := k.RevokeAll(fmt.Sprint("@", i), many); got != 1 {
			t.Fatalf("K4: %d of @%d", got, i)
		}
	}
}
