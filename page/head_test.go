package page

import (
	"bytes"
	"strconv"
	"testing"

	"headland/api"
	"headland/disk"
)

// headBytes is a head's bytes by the chapter's words; again is the number that its last four bytes are of.
func headBytes(number uint64, root uint32, again uint64) []byte {
	b := []byte{'h', 'e', 'a', 'd'}
	for shift := 56; shift >= 0; shift -= 8 {
		b = append(b, byte(number>>shift))
	}
	b = append(b, byte(root>>24), byte(root>>16), byte(root>>8), byte(root))
	return append(b, byte(again>>24), byte(again>>16), byte(again>>8), byte(again))
}

func laidHead(number uint64, root uint32) []byte { return headBytes(number, root, number) }

// with is some bytes with another one at a place.
func with(b []byte, at int, c byte) []byte {
	w := make([]byte, max(len(b), at+1))
	copy(w, b)
	w[at] = c
	return w
}

func mustBlock(t *testing.T, d *disk.Disk, at int, want []byte, why string) {
	t.Helper()
	b, e := d.Read(at)
	if e != api.OK || !bytes.Equal(b, append(bytes.Clone(want), make([]byte, api.Block-len(want))...)) {
		t.Fatalf("%s: block %d begins with %v, %d; not with %v", why, at, b[:min(len(b), 24)], e, want[:min(len(want), 24)])
	}
}

// diskOf is a disk of 5 blocks with two heads.
func diskOf(t *testing.T, first, second []byte) *disk.Disk {
	t.Helper()
	d := newDisk(t, 5)
	for at, b := range [][]byte{first, second} {
		mustTell(t, d.Write(at, b), api.OK, "3.2: Write")
	}
	mustTell(t, d.Flush(), api.OK, "3.2: Flush")
	return d
}

func mustFind(t *testing.T, first, second []byte, root, number int, why string) {
	t.Helper()
	s, e := Open(diskOf(t, first, second))
	if s == nil || e != api.OK {
		t.Errorf("4.1: %s: %v, %d", why, s, e)
		return
	}
	if s.Root() != root || s.Number() != number || s.Left() != 3 {
		t.Errorf("4.1: %s: root %d, number %d, left %d; not %d, %d, 3", why, s.Root(), s.Number(), s.Left(), root, number)
	}
}

func mustBeCorrupt(t *testing.T, first, second []byte, why string) {
	t.Helper()
	if s, e := Open(diskOf(t, first, second)); s != nil || e != api.ErrCorrupt {
		t.Errorf("4.1: %s: %v, %d", why, s, e)
	}
}

func TestTheGreaterHeadCounts(t *testing.T) {
	mustFind(t, nil, nil, 0, 0, "two heads of bytes 0")
	mustFind(t, nil, laidHead(1, 2), 2, 1, "the numbers 0 and 1")
	mustFind(t, laidHead(2, 3), nil, 3, 2, "the numbers 2 and 0")
	mustFind(t, laidHead(2, 3), laidHead(1, 2), 3, 2, "the numbers 2 and 1")
	mustFind(t, laidHead(2, 3), laidHead(3, 0), 0, 3, "the numbers 2 and 3")
	mustFind(t, laidHead(256, 3), laidHead(255, 2), 3, 256, "the numbers 256 and 255")
	mustFind(t, laidHead(254, 3), laidHead(257, 2), 2, 257, "the numbers 254 and 257")
	mustFind(t, laidHead(1<<40, 3), laidHead(1<<32+1, 2), 3, 1<<40, "the numbers 2^40 and 2^32 + 1")
	mustFind(t, laidHead(2, 3), laidHead(1<<32+1, 2), 2, 1<<32+1, "the numbers 2 and 2^32 + 1")
	mustFind(t, laidHead(0x0102030405060708, 4), laidHead(0x0102030405060707, 2), 4, 0x0102030405060708, "numbers of eight bytes")
}

func TestHeadsOfOneNumber(t *testing.T) {
	mustFind(t, laidHead(2, 3), laidHead(2, 4), 3, 2, "one even number")
	mustFind(t, laidHead(3, 2), laidHead(3, 4), 2, 3, "one odd number: it is in the block of its parity, and block 0's counts")
	mustFind(t, laidHead(0, 0), laidHead(0, 0), 0, 0, "the number 0, laid out")
	mustFind(t, laidHead(0, 0), nil, 0, 0, "the number 0, laid out and as bytes 0")
}

func TestHeadsOfTheWrongParity(t *testing.T) {
	mustBeCorrupt(t, laidHead(1, 2), nil, "1 in block 0")
	mustBeCorrupt(t, nil, laidHead(2, 2), "2 in block 1")
	mustBeCorrupt(t, laidHead(3, 2), laidHead(1, 2), "3 in block 0 and 1 in block 1")
	mustBeCorrupt(t, laidHead(2, 2), laidHead(4, 2), "2 in block 0 and 4 in block 1")
	mustBeCorrupt(t, laidHead(3, 2), laidHead(2, 2), "both in the other's block")
	mustBeCorrupt(t, laidHead(1, 2), []byte("x"), "1 in block 0 beside no head")
	mustBeCorrupt(t, []byte("x"), laidHead(2, 2), "2 in block 1 beside no head")
	mustBeCorrupt(t, laidHead(1<<62-1, 2), nil, "2^62 - 1 in block 0")
	mustBeCorrupt(t, nil, laidHead(1<<62, 2), "2^62 in block 1")
	mustFind(t, laidHead(1, 2), laidHead(3, 4), 4, 3, "the lesser number alone in the wrong block")
	mustFind(t, laidHead(6, 2), laidHead(4, 4), 2, 6, "the lesser number alone in the wrong block")
}

func TestTheNumber0StandsInEither(t *testing.T) {
	for _, zero := range [][]byte{nil, laidHead(0, 0)} {
		mustFind(t, zero, []byte("x"), 0, 0, "0 in block 0")
		mustFind(t, []byte("x"), zero, 0, 0, "0 in block 1")
	}
}

// noHeads is blocks that are no head, of the numbers 6 (in block 0) and 7 (in block 1).
func noHeads(number uint64) map[string][]byte {
	h := laidHead(number, 3)
	return map[string][]byte{
		"other letters":                           []byte("x"),
		"the root 1":                              laidHead(number, 1),
		"the root behind the last block":          laidHead(number, 5),
		"a root far behind the last block":        laidHead(number, 1<<31),
		"the greatest root":                       laidHead(number, 1<<32-1),
		"the number 0 with a root":                laidHead(0, 2),
		"the number 2^62 + 1":                     laidHead(1<<62+1, 3),
		"the number 2^62 + 2":                     laidHead(1<<62+2, 3),
		"the number 2^63":                         laidHead(1<<63, 3),
		"the number 2^63 + 1":                     laidHead(1<<63+1, 3),
		"the greatest number, even":               laidHead(1<<64-2, 3),
		"the greatest number":                     laidHead(1<<64-1, 3),
		"at its end another number":               headBytes(number, 3, number+2),
		"at its end the number ahead":             headBytes(number, 3, number-2),
		"at its end the highest four":             headBytes(number+9<<32, 3, 9),
		"the number's end above the lowest":       headBytes(number, 3, number+1<<8),
		"at its end a third byte":                 headBytes(number, 3, number+1<<16),
		"at its end a fourth byte":                headBytes(number, 3, number+1<<24),
		"a byte behind the twentieth":             with(h, 20, 1),
		"a bit behind the twentieth":              with(h, 24, 128),
		"a byte in the middle":                    with(h, 4096, 1),
		"a byte at the end of the block":          with(h, 8191, 255),
		"another first letter":                    with(h, 0, 'H'),
		"another second letter":                   with(h, 1, 'E'),
		"another third letter":                    with(h, 2, 'b'),
		"another fourth letter":                   with(h, 3, 0),
		"no letters":                              append(make([]byte, 4), h[4:]...),
		"a head one byte on":                      append([]byte{0}, h...),
		"a byte of a block that is all 0":         with(nil, 8191, 1),
		"the first byte of one that is all 0":     with(nil, 0, 1),
		"the twentieth byte of one that is all 0": with(nil, 19, 1),
		"the letters alone, cut short":            []byte("hea"),
		"the root's bytes the lowest first":       append(append(bytes.Clone(h[:12]), 3, 0, 0, 0), h[16:]...),
	}
}

func TestNoHeadIsPassedOver(t *testing.T) {
	for why, b := range noHeads(6) {
		mustFind(t, b, nil, 0, 0, why+", in block 0, beside 0")
		mustFind(t, b, laidHead(5, 4), 4, 5, why+", in block 0, beside 5")
		mustBeCorrupt(t, b, []byte("x"), why+", in block 0, beside none")
		mustBeCorrupt(t, b, laidHead(2, 4), why+", in block 0, beside one in the wrong block")
	}
	for why, b := range noHeads(7) {
		mustFind(t, nil, b, 0, 0, why+", in block 1, beside 0")
		mustFind(t, laidHead(4, 2), b, 2, 4, why+", in block 1, beside 4")
		mustBeCorrupt(t, []byte("x"), b, why+", in block 1, beside none")
		mustBeCorrupt(t, b, b, why+", in both")
	}
}

func TestHeadsAtTheEdges(t *testing.T) {
	mustFind(t, laidHead(6, 0), nil, 0, 6, "no root")
	mustFind(t, laidHead(6, 2), nil, 2, 6, "the first page as the root")
	mustFind(t, laidHead(6, 4), nil, 4, 6, "the last page as the root")
	mustFind(t, laidHead(1<<62, 2), laidHead(1<<62-1, 3), 2, 1<<62, "the greatest number")
	mustFind(t, laidHead(1<<62-2, 2), laidHead(1<<62-1, 3), 3, 1<<62-1, "the greatest odd number")
	mustFind(t, laidHead(1<<62, 2), laidHead(1<<62+1, 3), 2, 1<<62, "a number above the greatest beside it")
	mustFind(t, laidHead(1<<32, 2), nil, 2, 1<<32, "a number whose lowest four bytes are 0")
}

func TestARootOnTheGreatestDisk(t *testing.T) {
	for root, want := range map[uint32]int{4095: 4095, 4096: 0, 258: 258} {
		d := newDisk(t, api.MaxBlocks)
		d.Write(0, laidHead(2, root))
		s, e := Open(d)
		if e != api.OK || s.Root() != want {
			t.Errorf("4.1: a head with the root %d: %d", root, e)
		}
	}
}

// TestEachByteOfAHeadCounts: a head of which one byte is another is no head, but where that byte is of the number's highest four.
func TestEachByteOfAHeadCounts(t *testing.T) {
	h := append(laidHead(6, 3), make([]byte, api.Block-20)...)
	for at := range h {
		if at >= 40 && at%97 != 0 {
			continue
		}
		root, number := 4, 5
		if at >= 5 && at <= 7 {
			root, number = 3, 64<<(8*(11-at))+6
		}
		mustFind(t, with(h, at, h[at]^64), laidHead(5, 4), root, number, "a head with another byte "+strconv.Itoa(at))
	}
}

func TestCommitWritesTheHeads(t *testing.T) {
	s, d := newStore(t, 300)
	for id := 2; id < 300; id++ {
		mustPut(t, s, nil, id)
	}
	blocks := [][]byte{nil, nil}
	for number := 1; number < 300; number++ {
		root := 300 - number
		if number == 299 {
			root = 0
		}
		mustTell(t, s.Commit(root), api.OK, "4.3: Commit")
		mustHave(t, s, root, number, 0, "4.3: Commit")
		blocks[number%2] = laidHead(uint64(number), uint32(root))
		for at, b := range blocks {
			mustBlock(t, d, at, b, "4.3: Commit")
		}
		mustOpen(t, d, root, number)
		if d.Open() != 0 {
			t.Fatal("4.3: Commit leaves an open write")
		}
	}
}

func TestCommitOfWhatIsNoRoot(t *testing.T) {
	s, d := newStore(t, 6)
	mustPut(t, s, []byte("a"), 2)
	mustPut(t, s, []byte("b"), 3)
	mustTell(t, s.Free(3), api.OK, "4.2: Free")
	for _, root := range []int{-1, 1, 3, 4, 5, 6, 7, -2, 1 << 32, 1<<32 + 2, -1 << 62} {
		mustTell(t, s.Commit(root), api.ErrArg, "4.3: Commit of what is no held page")
	}
	mustHave(t, s, 0, 0, 2, "4.3: a refused Commit")
	if d.Open() != 2 {
		t.Error("4.3: a refused Commit flushes")
	}
	mustBlock(t, d, 0, nil, "4.3: a refused Commit")
	mustBlock(t, d, 1, nil, "4.3: a refused Commit")
	mustTell(t, s.Commit(2), api.OK, "4.3: Commit of a held page")
	mustHave(t, s, 2, 1, 3, "4.3: Commit of a held page")
	mustTell(t, s.Commit(2), api.OK, "4.3: Commit of the root once more")
	mustHave(t, s, 2, 2, 3, "4.3: Commit of the root once more")
	mustTell(t, s.Commit(0), api.OK, "4.3: Commit of no root")
	mustHave(t, s, 0, 3, 3, "4.3: Commit of no root")
	mustTell(t, s.Free(2), api.OK, "4.3: a page is held behind Commits")
}

func TestCommitAtTheGreatestNumber(t *testing.T) {
	d := diskOf(t, laidHead(1<<62-2, 2), laidHead(1<<62-1, 3))
	s := mustOpen(t, d, 3, 1<<62-1)
	mustPut(t, s, []byte("a"), 2)
	mustTell(t, s.Commit(2), api.OK, "4.3: Commit to the greatest number")
	mustHave(t, s, 2, 1<<62, 2, "4.3: Commit to the greatest number")
	mustBlock(t, d, 0, laidHead(1<<62, 2), "4.3: Commit to the greatest number")
	mustPut(t, s, []byte("b"), 3)
	mustTell(t, s.Free(3), api.OK, "4.2: Free")
	for range 2 {
		mustTell(t, s.Commit(0), api.ErrFull, "4.3: Commit at the greatest number")
		mustTell(t, s.Commit(2), api.ErrFull, "4.3: Commit at the greatest number")
		mustTell(t, s.Commit(3), api.ErrArg, "4.3: ErrArg comes ahead of ErrFull")
	}
	mustHave(t, s, 2, 1<<62, 1, "4.3: Commit at the greatest number")
	if d.Open() != 1 {
		t.Error("4.3: a refused Commit flushes")
	}
	mustBlock(t, d, 0, laidHead(1<<62, 2), "4.3: Commit at the greatest number")
	mustBlock(t, d, 1, laidHead(1<<62-1, 3), "4.3: Commit at the greatest number")
	d.Cut(disk.Loss{})
	mustTell(t, s.Commit(0), api.ErrDown, "4.3: ErrDown comes ahead of ErrFull")
	mustTell(t, s.Commit(3), api.ErrDown, "4.3: ErrDown comes ahead of ErrArg")
}
