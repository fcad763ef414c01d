package page

import (
	"bytes"

	"headland/api"
	"headland/disk"
)

const (
	heads      = 2  // blocks, ahead of the pages
	noRoot     = 0  // a head's block can be no page: its number is free to say that there is none
	noNumber   = -1 // of what is no head: below each head's
	mostNumber = 1 << 62

	mark       = "head"
	markSize   = len(mark)
	numberSize = 8
	rootSize   = 4
	againSize  = 4 // the number's lowest bytes once more: a write that was torn within the number is told by them
)

// head says which root there is. The number tells which of two heads was written last.
type head struct {
	number, root int
}

// block is where a head stands: never where the one ahead of it does, so that a torn write leaves that one whole.
func (h head) block() int { return h.number % heads }

func (h head) bytes() []byte {
	number := ordered(uint64(h.number), numberSize)
	b := append([]byte(mark), number...)
	b = append(b, ordered(uint64(h.root), rootSize)...)
	return append(b, number[numberSize-againSize:]...)
}

// lastHead is the head that counts of those on a disk.
func lastHead(d *disk.Disk) (head, api.Errno) {
	var found [heads]head
	for at := range found {
		b, e := d.Read(at)
		if e != api.OK {
			return head{}, e
		}
		found[at] = readHead(b, d.Blocks())
	}
	last := found[0]
	if found[1].number > last.number {
		last = found[1]
	}
	misplaced := last.number > 0 && found[last.block()].number != last.number
	if last.number == noNumber || misplaced {
		return head{}, api.ErrCorrupt
	}
	return last, api.OK
}

// readHead is a block's head, on a disk of so many blocks. A head that is laid anew of what the block says tells all else that may be wrong with it at once.
func readHead(b []byte, blocks int) head {
	if bytes.Equal(b, whole(nil)) {
		return head{}
	}
	number := orderedNumber(b[markSize:][:numberSize])
	root := orderedNumber(b[markSize+numberSize:][:rootSize])
	noPlace := root != noRoot && root < heads || root >= uint64(blocks)
	if number > mostNumber || noPlace || number == 0 && root != noRoot {
		return head{number: noNumber}
	}
	h := head{number: int(number), root: int(root)}
	if !bytes.Equal(b, whole(h.bytes())) {
		return head{number: noNumber}
	}
	return h
}
