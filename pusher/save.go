package pusher

import (
	"slices"

	"tocsin/api"
	"tocsin/wire"
)

// maxSaved is how many pushers Load reads at most.
const maxSaved = 1000000

// Save writes it (U7).
func (p *Post) Save(w *wire.Writer) {
	if w == nil { // no call panics (P1)
		return
	}
	w.Int(int64(p.next))
	wire.WriteList(w, p.pushers, writePusher)
}

func writePusher(w *wire.Writer, one *pusher) {
	_, failures, until, dropped := one.State()
	w.Text(one.user)
	w.Text(one.key)
	w.Flag(one.full)
	wire.WriteList(w, slices.Collect(one.All()), (*wire.Writer).Text)
	w.Int(int64(failures))
	w.Int(int64(until))
	w.Int(int64(dropped))
	w.Int(int64(one.attempt))
}

// Load reads what Save wrote (U7).
func Load(r *wire.Reader) (*Post, api.Errno) {
	if r == nil { // no call panics (P1)
		return nil, api.ErrWire
	}
	p := &Post{next: int(r.Int())}
	p.pushers = wire.ReadList(r, maxSaved, readPusher)
	if r.Err() != nil || !p.sound() {
		return nil, api.ErrWire
	}
	return p, api.OK
}

// readPusher gives nil, if the queue refuses what is read.
func readPusher(r *wire.Reader) *pusher {
	user := r.Text()
	one := newPusher(user, r.Text())
	one.full = r.Flag()
	for _, note := range wire.ReadList(r, api.MaxQueue, (*wire.Reader).Text) {
		one.Put(note)
	}
	failures := int(r.Int())
	until := int(r.Int())
	dropped := int(r.Int())
	one.attempt = int(r.Int())
	if one.Set(failures, until, dropped) != api.OK {
		return nil
	}
	return one
}

// sound tells whether what was read could be what Save wrote.
func (p *Post) sound() bool {
	if p.next < 1 || p.next > api.MaxInt+1 || slices.Contains(p.pushers, nil) {
		return false
	}
	for _, one := range p.pushers {
		if !mayBe(one.user, one.key) || !one.mayTry(p.next) {
			return false
		}
	}
	return p.inOrder() && p.noneCrowded() && p.attemptsApart()
}

// mayTry tells whether a pusher may have its attempt, if the next one has this number.
func (one *pusher) mayTry(next int) bool {
	waits, _, _, _ := one.State()
	return one.attempt == 0 || 0 < one.attempt && one.attempt < next && waits > 0
}

// inOrder tells whether each stands behind the one ahead of it, and none beside its like.
func (p *Post) inOrder() bool {
	for i := 1; i < len(p.pushers); i++ {
		if compare(p.pushers[i-1].name, p.pushers[i].name) >= 0 {
			return false
		}
	}
	return true
}

// noneCrowded tells whether no user has too many, of pushers that are in order.
func (p *Post) noneCrowded() bool {
	for i := api.MaxPushers; i < len(p.pushers); i++ {
		if p.pushers[i-api.MaxPushers].user == p.pushers[i].user {
			return false
		}
	}
	return true
}

// attemptsApart tells whether no two pushers have the same attempt.
func (p *Post) attemptsApart() bool {
	var numbers []int
	for _, one := range p.pushers {
		if one.attempt > 0 {
			numbers = append(numbers, one.attempt)
		}
	}
	slices.Sort(numbers)
	return len(slices.Compact(numbers)) == len(numbers)
}
