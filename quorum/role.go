package quorum

import "tocsin/api"

// A role is what a node does in its term.
type role int

const (
	follows role = iota
	stands
	leads
)

// A peer is what a leader knows of another node.
type peer struct {
	next int // the place that it is to be sent next
	has  int // up to which place it has what the leader has
}

// enter brings the node into a later term, in which it has not voted.
func (n *Node) enter(term int) bool {
	if !n.keepBallot(term, nobody) {
		return false
	}
	n.role, n.leader = follows, nobody
	return true
}

// stand asks the others for their votes, in the next term, if there is one.
func (n *Node) stand() {
	if n.term >= api.MaxTime || !n.keepBallot(n.term+1, n.id) {
		return
	}
	n.role, n.leader = stands, nobody
	n.sendAsks()
}

// lead is for a node that has two of three votes.
func (n *Node) lead() {
	n.role, n.leader, n.clock = leads, n.id, 0
	for i := range n.peers {
		n.peers[i] = peer{next: n.last() + 1}
	}
	n.add("") // with an entry of its own term what stands ahead of it can be agreed on
	n.sendAppends()
}
