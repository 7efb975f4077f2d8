package quorum

import "tocsin/api"

// keep makes a change of what lasts, and tells whether it could: behind is what there is with the change, the record says what has changed.
func (n *Node) keep(record []byte, behind lasting) bool {
	if n.write(record, behind) != api.OK {
		return false
	}
	n.lasting = behind
	return true
}

// write makes a change last as a record or, if there is no room for one, with all else that lasts.
func (n *Node) write(record []byte, behind lasting) api.Errno {
	if len(record) <= n.journal.Room() {
		return n.journal.Append(record)
	}
	return n.journal.Compact(behind.snapshot())
}

func (n *Node) keepBallot(term, vote int) bool {
	return n.keep(ballotRecord(term, vote), n.withBallot(term, vote))
}

func (n *Node) keepEntry(place int, e entry) bool {
	return n.keep(entryRecord(place, e), n.withEntry(place, e))
}

// add keeps an entry of the node's term behind the others, if there may be one more.
func (n *Node) add(data string) bool {
	return n.last() < api.MaxEntries && n.keepEntry(n.last()+1, entry{n.term, data})
}
