package quorum

import (
	"slices"

	"tocsin/api"
)

// maxBox is how many letters wait to be sent.
const maxBox = 64

// isMeant tells whether a letter goes from another one of the three to this one.
func (n *Node) isMeant(l api.Letter) bool {
	return l.To == n.id && l.From != n.id && within(l.From, 0, api.Houses-1)
}

// isLetter tells whether a letter is well made.
func isLetter(l api.Letter) bool {
	return within(l.Kind, api.Ask, api.Answer) && within(l.Term, 1, api.MaxTime) &&
		within(l.Index, 0, api.MaxEntries) && within(l.Agreed, 0, api.MaxEntries) &&
		within(l.Before, 0, l.Term) && isPlaced(l) && isPacked(l)
}

// isPlaced tells whether a letter that names a place and its term has both, or neither.
func isPlaced(l api.Letter) bool {
	return l.Kind != api.Ask && l.Kind != api.Append || (l.Index == 0) == (l.Before == 0)
}

// isPacked tells whether a letter may have its entries.
func isPacked(l api.Letter) bool {
	if l.Kind != api.Append {
		return len(l.Entries) == 0
	}
	if len(l.Entries) > api.MaxPack || l.Index+len(l.Entries) > api.MaxEntries {
		return false
	}
	least := max(l.Before, 1)
	for _, e := range l.Entries {
		if !within(e.Term, least, l.Term) || len(e.Data) > api.MaxJSON {
			return false
		}
		least = e.Term
	}
	return true
}

// send lays a letter into the box.
func (n *Node) send(l api.Letter) {
	l.From, l.Term = n.id, n.term
	n.box = append(n.box, l)
	if len(n.box) > maxBox {
		n.box = slices.Delete(n.box, 0, 1)
	}
}

func (n *Node) sendAsks() {
	for _, to := range n.others() {
		n.send(api.Letter{To: to, Kind: api.Ask, Index: n.last(), Before: n.termAt(n.last())})
	}
}

func (n *Node) sendAppends() {
	for _, to := range n.others() {
		n.sendAppend(to)
	}
}

func (n *Node) sendAppend(to int) {
	index := n.peers[to].next - 1
	pack := n.log[index:min(index+api.MaxPack, n.last())]
	n.send(api.Letter{To: to, Kind: api.Append, Index: index, Before: n.termAt(index), Agreed: n.agreed, Entries: given(pack)})
}

// others are the numbers of the other nodes, which rise.
func (n *Node) others() []int {
	var list []int
	for i := range api.Houses {
		if i != n.id {
			list = append(list, i)
		}
	}
	return list
}
