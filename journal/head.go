package journal

import (
	"tocsin/api"
	"tocsin/disk"
)

const (
	heads          = 2 // blocks, ahead of the areas
	mark           = "tocsin"
	lastGeneration = 999999999
)

type block [api.BlockSize]byte

// A head says where the snapshot of a generation lies.
type head struct {
	side       int // its area
	generation uint32
	size, sum  uint32 // of the snapshot
}

// counting gives the head that counts, if the disk holds a journal.
func counting(d *disk.Disk) (head, bool) {
	first, firstRight := headIn(d, 0)
	second, secondRight := headIn(d, 1)
	if firstRight && (!secondRight || first.generation > second.generation) {
		return first, true
	}
	return second, secondRight
}

// headIn gives the head in block k, if it is right.
func headIn(d *disk.Disk, k int) (head, bool) {
	b, errno := d.Read(k)
	if errno != api.OK {
		return head{}, false
	}
	h := head{side: int(b[6]), generation: number(b[8:12]), size: number(b[12:16]), sum: number(b[16:20])}
	// Written out, it is this block again only if the bytes that tell nothing are as they must be.
	if h.side > 1 || h.generation < 1 || h.generation > lastGeneration || h.place() != k || h.bytes() != block(b) {
		return head{}, false
	}
	a := area{d, h.side}
	if h.size > uint32(a.size()) {
		return head{}, false
	}
	snapshot, read := a.read(int(h.size))
	if !read || sum(snapshot) != h.sum {
		return head{}, false
	}
	return h, true
}

// place is the number of its block: the head ahead of it lies in the other one, and stays.
func (h head) place() int { return int(h.generation % heads) }

func (h head) bytes() block {
	var b block
	copy(b[:], mark)
	b[6] = byte(h.side)
	put(b[8:12], h.generation)
	put(b[12:16], h.size)
	put(b[16:20], h.sum)
	return b
}

// lay writes a head so that it lasts. Its first byte comes when all else lasts: till then it is not right, whatever of it stays.
func (h head) lay(d *disk.Disk) bool {
	whole := h.bytes()
	unmarked := whole
	unmarked[0] = 0
	return wrote(d, h.place(), unmarked[:]) && synced(d) && wrote(d, h.place(), whole[:]) && synced(d)
}
