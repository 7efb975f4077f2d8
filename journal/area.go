package journal

import (
	"tocsin/api"
	"tocsin/disk"
)

// frame is how many bytes of a record stand ahead of its data: the flag, the length in 2, the sum in 4.
const frame = 7

// An area is one half of the blocks behind the heads, as a row of bytes.
type area struct {
	disk *disk.Disk
	side int // 0 or 1
}

func (a area) other() area { return area{a.disk, 1 - a.side} }

func (a area) blocks() int { return (a.disk.Blocks() - heads) / 2 }

func (a area) size() int { return a.blocks() * api.BlockSize }

// block is the number, on the disk, of the block in which the place p lies.
func (a area) block(p int) int { return heads + a.side*a.blocks() + p/api.BlockSize }

// read gives the first n bytes.
func (a area) read(n int) ([]byte, bool) {
	row := make([]byte, n)
	for p := 0; p < n; p += api.BlockSize {
		b, errno := a.disk.Read(a.block(p))
		if errno != api.OK {
			return nil, false
		}
		copy(row[p:], b)
	}
	return row, true
}

// write writes bytes from the place p on, which is less than the size. In the last block noughts follow, also if all of it lies behind the bytes: so no record stands there.
func (a area) write(p int, bytes []byte) bool {
	start := p - p%api.BlockSize
	ahead, errno := a.disk.Read(a.block(p))
	if errno != api.OK {
		return false
	}
	row := append(ahead[:p-start], bytes...)
	last := min(p+len(bytes), a.size()-1)
	for at := start; at <= last; at += api.BlockSize {
		n := min(len(row), api.BlockSize)
		if !wrote(a.disk, a.block(at), row[:n]) {
			return false
		}
		row = row[n:]
	}
	return true
}

// flag makes what was written at the place p a record.
func (a area) flag(p int) bool {
	b, errno := a.disk.Read(a.block(p))
	if errno != api.OK {
		return false
	}
	b[p%api.BlockSize] = 1
	return wrote(a.disk, a.block(p), b)
}

// unflagged is a record with a flag of 0.
func unflagged(data []byte) []byte {
	row := make([]byte, frame, frame+len(data))
	put(row[1:3], uint32(len(data)))
	put(row[3:7], sum(data))
	return append(row, data...)
}

// cut gives the data of the records in a row of bytes, from the place p on, and where they end.
func cut(row []byte, p int) (records [][]byte, end int) {
	for {
		data, stands := recordAt(row, p)
		if !stands {
			return records, p
		}
		records = append(records, data)
		p += frame + len(data)
	}
}

// recordAt gives the data of the record that stands at the place p, if one does. It has no spare room: there the next one begins.
func recordAt(row []byte, p int) ([]byte, bool) {
	from := p + frame
	if from >= len(row) || row[p] != 1 {
		return nil, false
	}
	to := from + int(number(row[p+1:p+3]))
	if to == from || to-from > api.MaxRecord || to > len(row) {
		return nil, false
	}
	data := row[from:to:to]
	if sum(data) != number(row[p+3:p+7]) {
		return nil, false
	}
	return data, true
}

func sum(bytes []byte) uint32 {
	s := uint32(2166136261)
	for _, b := range bytes {
		s = (s ^ uint32(b)) * 16777619
	}
	return s
}

// number reads one, the low byte first.
func number(bytes []byte) uint32 {
	var n uint32
	for i, b := range bytes {
		n |= uint32(b) << (8 * i)
	}
	return n
}

// put writes a number, the low byte first.
func put(bytes []byte, n uint32) {
	for i := range bytes {
		bytes[i] = byte(n >> (8 * i))
	}
}
