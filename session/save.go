package session

import (
	"cmp"

	"tocsin/api"
	"tocsin/wire"
)

// maxSaved is how many tokens, and how many dues, Load reads at most.
const maxSaved = 1000000

// Save writes it, but for its key (K6).
func (k *Keeper) Save(w *wire.Writer) {
	if w == nil { // no call panics (P1)
		return
	}
	w.Int(k.life)
	w.Int(k.burst)
	w.Int(k.rate)
	w.Int(k.latest)
	w.Int(k.given)
	wire.WriteList(w, k.tokens.shelf.sorted(byNumber), writeToken)
	wire.WriteList(w, k.dues.sorted(byUser), writeDue)
}

// Load reads what Save wrote (K6).
func Load(key []byte, r *wire.Reader) (*Keeper, api.Errno) {
	if !isKey(key) {
		return nil, api.ErrArg
	}
	if r == nil { // no call panics (P1)
		return nil, api.ErrWire
	}
	k := withKey(key)
	k.life = r.Int()
	k.burst = r.Int()
	k.rate = r.Int()
	k.latest = r.Int()
	k.given = r.Int()
	tokens := wire.ReadList(r, maxSaved, readToken)
	dues := wire.ReadList(r, maxSaved, readDue)
	// Which tokens and dues may be hangs on the numbers.
	if r.Err() != nil || !k.mayBe() || !k.takeTokens(tokens) || !k.takeDues(dues) {
		return nil, api.ErrWire
	}
	return k, api.OK
}

// byNumber and byUser are the orders in which tokens and dues are written.
func byNumber(a, b row[token]) int { return cmp.Compare(a.key.number, b.key.number) }

func byUser(a, b row[string]) int { return cmp.Compare(a.key, b.key) }

func writeToken(w *wire.Writer, r row[token]) {
	w.Int(r.key.number)
	w.Text(r.key.user)
	w.Int(r.until)
}

func readToken(r *wire.Reader) row[token] {
	var t token
	t.number = r.Int()
	t.user = r.Text()
	t.until = r.Int()
	return row[token]{t, t.until}
}

func writeDue(w *wire.Writer, r row[string]) {
	w.Text(r.key)
	w.Int(r.until)
}

func readDue(r *wire.Reader) row[string] {
	var due row[string]
	due.key = r.Text()
	due.until = r.Int()
	return due
}

// takeTokens takes tokens in; false, if there is one that Save would not write there.
func (k *Keeper) takeTokens(list []row[token]) bool {
	if !rising(list, byNumber) {
		return false
	}
	for _, r := range list {
		if !within(r.key.number, 1, k.given) || !isUser(r.key.user) || !within(r.until, k.latest+1, k.latest+k.life) {
			return false
		}
		k.tokens.add(r.key)
	}
	return true
}

// takeDues takes dues in; false, if there is one that Save would not write there.
func (k *Keeper) takeDues(list []row[string]) bool {
	if !rising(list, byUser) {
		return false
	}
	for _, r := range list {
		if !isUser(r.key) || !within(r.until, k.latest+1, k.latest+k.burst*k.rate) {
			return false
		}
		k.dues.put(r.key, r.until)
	}
	return true
}

// rising tells whether each stands behind the one ahead of it, and none beside its like.
func rising[T any](list []T, compare func(a, b T) int) bool {
	for i := 1; i < len(list); i++ {
		if compare(list[i-1], list[i]) >= 0 {
			return false
		}
	}
	return true
}
