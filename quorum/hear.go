package quorum

import "tocsin/api"

// deedsByKind is what a letter of the node's term does, by its kind.
func deedsByKind() [api.Answer + 1]func(*Node, api.Letter) api.Errno {
	return [api.Answer + 1]func(*Node, api.Letter) api.Errno{
		api.Ask:    (*Node).hearAsk,
		api.Vote:   (*Node).hearVote,
		api.Append: (*Node).hearAppend,
		api.Answer: (*Node).hearAnswer,
	}
}

// refuse tells who writes in an earlier term which one it is now.
func (n *Node) refuse(l api.Letter) {
	switch l.Kind {
	case api.Ask:
		n.send(api.Letter{To: l.From, Kind: api.Vote})
	case api.Append:
		n.send(api.Letter{To: l.From, Kind: api.Answer})
	}
}

func (n *Node) hearAsk(l api.Letter) api.Errno {
	yes := n.mayVote(l) && (n.vote == l.From || n.keepBallot(n.term, l.From))
	if yes {
		n.clock = 0
	}
	n.send(api.Letter{To: l.From, Kind: api.Vote, Yes: yes})
	return api.OK
}

// mayVote tells whether the node is free to vote for who asks, and that one's log is not behind its own.
func (n *Node) mayVote(l api.Letter) bool {
	if n.role != follows || n.vote != nobody && n.vote != l.From {
		return false
	}
	last := n.termAt(n.last())
	return l.Before > last || l.Before == last && l.Index >= n.last()
}

func (n *Node) hearVote(l api.Letter) api.Errno {
	if n.role == stands && l.Yes { // with its own vote it has two
		n.lead()
	}
	return api.OK
}

func (n *Node) hearAppend(l api.Letter) api.Errno {
	if n.role == leads || n.gainsays(l) {
		return api.ErrLetter
	}
	n.role, n.leader, n.clock = follows, l.From, 0
	if l.Index > n.last() || n.termAt(l.Index) != l.Before {
		n.send(api.Letter{To: l.From, Kind: api.Answer, Index: min(n.last(), l.Index-1)})
		return api.OK
	}
	got := n.take(l.Index, l.Entries)
	n.agreed = max(n.agreed, min(l.Agreed, got))
	n.send(api.Letter{To: l.From, Kind: api.Answer, Yes: true, Index: got})
	return api.OK
}

// gainsays tells whether a letter has another entry than the node at a place that is agreed on.
func (n *Node) gainsays(l api.Letter) bool {
	for i, e := range l.Entries {
		place := l.Index + 1 + i
		if place <= n.agreed && !n.holds(place, e.Term) {
			return true
		}
	}
	return false
}

// take lets entries stand in the log behind a place, as far as they can be kept, and tells the place up to which they do.
func (n *Node) take(place int, entries []api.Entry) int {
	for _, e := range entries {
		if !n.holds(place+1, e.Term) && !n.keepEntry(place+1, entry{e.Term, string(e.Data)}) {
			break
		}
		place++
	}
	return place
}

func (n *Node) hearAnswer(l api.Letter) api.Errno {
	if n.role != leads {
		return api.OK
	}
	if !l.Yes {
		p := &n.peers[l.From]
		p.next = max(1, p.has+1, min(p.next-1, l.Index+1))
		n.sendAppend(l.From)
		return api.OK
	}
	if l.Index > n.last() {
		return api.ErrLetter
	}
	n.advance(l.From, l.Index)
	return api.OK
}

// advance is for a peer that has what the leader has, up to a place.
func (n *Node) advance(from, place int) {
	p := &n.peers[from]
	had := p.has
	p.has = max(had, place)
	p.next = p.has + 1
	n.agree()
	if p.has > had && p.next <= n.last() {
		n.sendAppend(from)
	}
}

// agree finds the greatest place that two nodes have, the leader and another one. An entry of an earlier term counts only with one of the node's own behind it: it alone may yet be overwritten, though two have it.
func (n *Node) agree() {
	most := 0
	for _, p := range n.peers {
		most = max(most, p.has)
	}
	for place := most; place > n.agreed; place-- {
		if n.holds(place, n.term) {
			n.agreed = place
			return
		}
	}
}
