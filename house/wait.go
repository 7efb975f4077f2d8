package house

import (
	"tocsin/api"
	"tocsin/route"
	"tocsin/sign"
)

// A ticket is what a request waits for: its order may be agreed on at this place, if the entry there is of this term.
type ticket struct{ place, term int }

// A seat is where an answer is waited for: a connection, and the number of the request there.
type seat struct{ conn, number int }

// handle makes a request an order, for which it waits, or refuses it.
func (h *House) handle(at seat, r api.Request) {
	o := orderOf(r).print()
	switch {
	case !sign.Valid(string(r.Body)):
		h.answer(at, route.Refused(api.ErrUTF8))
	case len(o) > api.MaxJSON:
		h.answer(at, route.Refused(api.ErrBody))
	default:
		h.propose(at, o)
	}
}

func (h *House) propose(at seat, o string) {
	place, term, errno := h.node.Propose([]byte(o))
	if errno != api.OK {
		h.answer(at, h.elsewhere(errno))
		return
	}
	h.waits[ticket{place, term}] = at
}

// elsewhere refuses what the node did not take, and tells who might, if that is known.
func (h *House) elsewhere(errno api.Errno) api.Response {
	r := route.Refused(errno)
	if leader, _ := h.node.Leader(); leader >= 0 {
		return withHeader(r, "x-leader", leader)
	}
	return r
}

func (h *House) answer(at seat, r api.Response) { h.conns[at.conn].slots[at.number] = r }

// forget lets nobody wait at a connection any more.
func (h *House) forget(conn int) {
	for t, at := range h.waits {
		if at.conn == conn {
			delete(h.waits, t)
		}
	}
}

// settle does what was agreed on since it was last called.
func (h *House) settle() {
	for _, e := range h.node.Agreed() {
		h.orders = append(h.orders, string(e.Data))
		h.settleEntry(ticket{len(h.orders), e.Term}, e.Data)
	}
}

// settleEntry does an entry's order, if it is one, and answers who waits for its place.
func (h *House) settleEntry(t ticket, data []byte) {
	if o, ok := readOrder(data); ok {
		r := h.machine.do(o)
		if at, ok := h.waits[t]; ok {
			h.answer(at, r)
			delete(h.waits, t)
		}
	}
	h.turnAway(t.place)
}

// turnAway is for those who still wait for a place at which something else was agreed on.
func (h *House) turnAway(place int) {
	for t, at := range h.waits {
		if t.place == place {
			h.answer(at, route.Refused(api.ErrLeader))
			delete(h.waits, t)
		}
	}
}
