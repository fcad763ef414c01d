package page

import (
	"bytes"

	"headland/api"
	"headland/wire"
)

const (
	sumSize   = 4
	countSize = 2
	mostBytes = api.Block - sumSize - countSize
)

// laid is a page's block of some bytes, without the bytes 0 at its end: the disk lays them, and needs no room for them so.
func laid(b []byte) []byte {
	content := append(ordered(uint64(len(b)), countSize), b...)
	sum := wire.Sum(whole(content)[:api.Block-sumSize])
	return append(ordered(uint64(sum), sumSize), content...)
}

// bytesOf is the bytes of which a page's block is laid. A block that is laid anew of what it says it has tells all that may be wrong with it at once.
func bytesOf(block []byte) ([]byte, api.Errno) {
	count := orderedNumber(block[sumSize:][:countSize])
	if count > mostBytes {
		return nil, api.ErrCorrupt
	}
	b := block[sumSize+countSize:][:count]
	if !bytes.Equal(block, whole(laid(b))) {
		return nil, api.ErrCorrupt
	}
	return bytes.Clone(b), api.OK
}

// whole is a block that begins with some bytes, with bytes 0 behind them.
func whole(b []byte) []byte {
	w := make([]byte, api.Block)
	copy(w, b)
	return w
}

// ordered is a number's lowest bytes, the highest of them first.
func ordered(n uint64, size int) []byte {
	b := make([]byte, size)
	for i := range b {
		b[size-1-i] = byte(n >> (8 * i))
	}
	return b
}

func orderedNumber(b []byte) uint64 {
	n := uint64(0)
	for _, c := range b {
		n = n<<8 | uint64(c)
	}
	return n
}
