package page

import (
	"bytes"
	"math"
	"testing"

	"headland/api"
	"headland/disk"
)

func newDisk(t *testing.T, blocks int) *disk.Disk {
	t.Helper()
	d, e := disk.New(blocks)
	if e != api.OK {
		t.Fatalf("3.1: New(%d): %d", blocks, e)
	}
	return d
}

func mustOpen(t *testing.T, d *disk.Disk, root, number int) *Store {
	t.Helper()
	s, e := Open(d)
	if s == nil || e != api.OK {
		t.Fatalf("4.1: Open: %v, %d", s, e)
	}
	if s.Root() != root || s.Number() != number {
		t.Fatalf("4.1: Open: root %d, number %d; not %d, %d", s.Root(), s.Number(), root, number)
	}
	return s
}

// newStore is a Store on a new disk.
func newStore(t *testing.T, blocks int) (*Store, *disk.Disk) {
	t.Helper()
	d := newDisk(t, blocks)
	return mustOpen(t, d, 0, 0), d
}

func mustPut(t *testing.T, s *Store, b []byte, want int) {
	t.Helper()
	if id, e := s.Put(b); id != want || e != api.OK {
		t.Fatalf("4.2: Put of %d bytes: %d, %d; not page %d", len(b), id, e, want)
	}
}

func mustGet(t *testing.T, s *Store, id int, want []byte, why string) {
	t.Helper()
	if b, e := s.Get(id); e != api.OK || !bytes.Equal(b, want) {
		t.Fatalf("%s: Get(%d): %d bytes, %d; not %d bytes", why, id, len(b), e, len(want))
	}
}

func mustNotGet(t *testing.T, s *Store, id int, want api.Errno, why string) {
	t.Helper()
	if b, e := s.Get(id); e != want || len(b) != 0 {
		t.Fatalf("%s: Get(%d): %d bytes, %d; not %d", why, id, len(b), e, want)
	}
}

func mustNotPut(t *testing.T, s *Store, b []byte, want api.Errno, why string) {
	t.Helper()
	if id, e := s.Put(b); id != 0 || e != want {
		t.Fatalf("%s: Put of %d bytes: %d, %d; not %d", why, len(b), id, e, want)
	}
}

// mustTell says what a call told.
func mustTell(t *testing.T, got, want api.Errno, why string) {
	t.Helper()
	if got != want {
		t.Fatalf("%s: %d, not %d", why, got, want)
	}
}

func mustHave(t *testing.T, s *Store, root, number, left int, why string) {
	t.Helper()
	if s.Root() != root || s.Number() != number || s.Left() != left {
		t.Fatalf("%s: root %d, number %d, left %d; not %d, %d, %d", why, s.Root(), s.Number(), s.Left(), root, number, left)
	}
}

// filled is bytes none of which is 0.
func filled(size int, first byte) []byte {
	b := make([]byte, size)
	for i := range b {
		b[i] = first + byte(i%101)
	}
	return b
}

func noPages(blocks int) []int {
	return []int{-2, -1, 0, 1, blocks, blocks + 1, 65536, math.MinInt, math.MaxInt}
}

func TestOpenOfWhatIsNoDiskForPages(t *testing.T) {
	if s, e := Open(nil); s != nil || e != api.ErrArg {
		t.Errorf("4.1: Open(nil): %v, %d", s, e)
	}
	for _, blocks := range []int{1, 2} {
		d := newDisk(t, blocks)
		for range 2 {
			if s, e := Open(d); s != nil || e != api.ErrArg {
				t.Errorf("4.1: Open of %d blocks: %v, %d", blocks, s, e)
			}
			d.Cut(disk.Loss{})
		}
	}
}

func TestOpenWithoutPower(t *testing.T) {
	for _, first := range []string{"", "no head"} {
		d := newDisk(t, 3)
		for at := range 2 {
			d.Write(at, []byte(first))
		}
		d.Flush()
		d.Cut(disk.Loss{})
		if s, e := Open(d); s != nil || e != api.ErrDown {
			t.Errorf("4.1: Open without power: %v, %d", s, e)
		}
	}
}

func TestOpenOfANewDisk(t *testing.T) {
	for _, blocks := range []int{3, 4, 5, 100, api.MaxBlocks} {
		s, d := newStore(t, blocks)
		mustHave(t, s, 0, 0, blocks-2, "4.1: a new disk")
		if s.Dead() {
			t.Error("4.4: a Store is dead from the beginning on")
		}
		for _, id := range []int{2, blocks - 1} {
			mustTell(t, s.Free(id), api.ErrArg, "4.1: no page is held: Free")
			mustTell(t, s.Commit(id), api.ErrArg, "4.1: no page is held: Commit")
		}
		if d.Open() != 0 || d.Life() != 0 {
			t.Error("4.1: Open writes")
		}
	}
}

func TestOpenHoldsNoPage(t *testing.T) {
	s, d := newStore(t, 5)
	mustPut(t, s, []byte("a"), 2)
	mustPut(t, s, []byte("b"), 3)
	mustTell(t, s.Commit(3), api.OK, "4.3: Commit")
	s = mustOpen(t, d, 3, 1)
	mustHave(t, s, 3, 1, 3, "4.1: no page is held, the root neither")
	mustTell(t, s.Free(3), api.ErrArg, "4.1: the root is not held")
	mustTell(t, s.Commit(3), api.ErrArg, "4.1: the root is not held")
	mustGet(t, s, 3, []byte("b"), "4.2: Get of a page that is not held")
	mustPut(t, s, []byte("c"), 2)
}

func TestOpenReadsOpenWrites(t *testing.T) {
	s, d := newStore(t, 4)
	mustPut(t, s, []byte("a"), 2)
	mustTell(t, s.Commit(2), api.OK, "4.3: Commit")
	mustTell(t, d.Write(0, headBytes(2, 3, 2)), api.OK, "3.2: Write")
	mustOpen(t, d, 3, 2)
	if d.Open() != 1 {
		t.Error("4.1: Open flushes")
	}
}

// TestOpenIsNoWrite: what is armed is not counted by an Open, nor by any call that is said to write nothing.
func TestOpenIsNoWrite(t *testing.T) {
	d := newDisk(t, 4)
	d.Arm(disk.Loss{After: 1})
	s := mustOpen(t, d, 0, 0)
	mustTell(t, s.Hold(2, 3), api.OK, "4.2: Hold")
	mustTell(t, s.Free(2), api.OK, "4.2: Free")
	s.Get(2)
	s.Left()
	mustNotPut(t, s, nil, api.ErrFull, "4.2: no page is free")
	mustNotPut(t, s, filled(8187, 1), api.ErrLong, "4.2: Put of too much")
	mustTell(t, s.Commit(2), api.ErrArg, "4.3: Commit of a page that is not held")
	if s.Dead() || d.Down() {
		t.Error("4.2: a call that writes nothing writes")
	}
	mustTell(t, s.Commit(3), api.ErrDown, "4.3: Commit")
}

func TestPutAndGet(t *testing.T) {
	s, _ := newStore(t, 12)
	want := [][]byte{nil, {}, {0}, {1}, []byte("ab"), make([]byte, 300), filled(8185, 1), filled(8186, 2), make([]byte, 8186), {0, 0, 1, 0, 0}}
	for i, b := range want {
		if s.Left() != len(want)-i {
			t.Errorf("4.2: Left is %d behind %d Puts", s.Left(), i)
		}
		mustPut(t, s, b, 2+i)
	}
	for i, b := range want {
		mustGet(t, s, 2+i, b, "4.2: what was put")
	}
	mustNotPut(t, s, nil, api.ErrFull, "4.2: no page is free")
	mustHave(t, s, 0, 0, 0, "4.2: all is held")
	for i, b := range want {
		mustGet(t, s, 2+i, b, "4.2: what was put, behind a refused Put")
	}
}

func TestPutOfTooMuch(t *testing.T) {
	s, d := newStore(t, 3)
	for _, size := range []int{8187, 8188, 8192, 8193, 65536 + 1} {
		mustNotPut(t, s, filled(size, 1), api.ErrLong, "4.2: Put of too much")
	}
	mustHave(t, s, 0, 0, 1, "4.2: a refused Put holds nothing")
	if d.Open() != 0 {
		t.Error("4.2: a refused Put writes")
	}
	mustPut(t, s, filled(8186, 1), 2)
	mustNotPut(t, s, filled(8187, 1), api.ErrLong, "4.2: ErrLong comes ahead of ErrFull")
	mustNotPut(t, s, filled(8186, 1), api.ErrFull, "4.2: no page is free")
	mustGet(t, s, 2, filled(8186, 1), "4.2: what was put")
}

func TestPutTakesTheLowestFreePage(t *testing.T) {
	s, _ := newStore(t, 8)
	mustTell(t, s.Hold(2, 4, 7), api.OK, "4.2: Hold")
	mustPut(t, s, []byte("a"), 3)
	mustPut(t, s, []byte("b"), 5)
	mustPut(t, s, []byte("c"), 6)
	mustNotPut(t, s, nil, api.ErrFull, "4.2: no page is free")
	for _, id := range []int{7, 3, 5} {
		mustTell(t, s.Free(id), api.OK, "4.2: Free")
	}
	mustNotPut(t, s, nil, api.ErrFull, "4.2: a page that is given back is not free")
	mustTell(t, s.Commit(0), api.OK, "4.3: Commit")
	mustHave(t, s, 0, 1, 3, "4.3: what was given back is free")
	mustPut(t, s, []byte("d"), 3)
	mustPut(t, s, []byte("e"), 5)
	mustPut(t, s, []byte("f"), 7)
	for id, want := range map[int]string{3: "d", 5: "e", 6: "c", 7: "f"} {
		mustGet(t, s, id, []byte(want), "4.2: what was put last")
	}
}

func TestPutOnTheGreatestDisk(t *testing.T) {
	s, d := newStore(t, api.MaxBlocks)
	for id := 2; id < api.MaxBlocks; id++ {
		mustPut(t, s, []byte{byte(id >> 8), byte(id)}, id)
	}
	mustNotPut(t, s, nil, api.ErrFull, "4.2: no page is free")
	mustTell(t, s.Commit(api.MaxBlocks-1), api.OK, "4.3: Commit of the last page")
	s = mustOpen(t, d, api.MaxBlocks-1, 1)
	for id := 2; id < api.MaxBlocks; id++ {
		mustGet(t, s, id, []byte{byte(id >> 8), byte(id)}, "4.2: what was put")
	}
}

func TestGetOfAnyPage(t *testing.T) {
	s, _ := newStore(t, 6)
	mustPut(t, s, []byte("held"), 2)
	mustPut(t, s, []byte("given"), 3)
	mustPut(t, s, []byte("free"), 4)
	mustTell(t, s.Free(4), api.OK, "4.2: Free")
	mustTell(t, s.Commit(0), api.OK, "4.3: Commit")
	mustTell(t, s.Free(3), api.OK, "4.2: Free")
	mustGet(t, s, 2, []byte("held"), "4.2: Get of a held page")
	mustGet(t, s, 3, []byte("given"), "4.2: Get of a page that is given back")
	mustGet(t, s, 4, []byte("free"), "4.2: Get of a free page")
	mustNotGet(t, s, 5, api.ErrCorrupt, "4.2: Get of a page that was never written")
	mustTell(t, s.Hold(5), api.OK, "4.2: Hold")
	mustNotGet(t, s, 5, api.ErrCorrupt, "4.2: Get of a held page that was never written")
	for _, id := range noPages(6) {
		mustNotGet(t, s, id, api.ErrArg, "4.2: Get of what is no page")
	}
}

func TestFree(t *testing.T) {
	s, _ := newStore(t, 5)
	mustPut(t, s, []byte("a"), 2)
	mustPut(t, s, []byte("b"), 3)
	for _, id := range append(noPages(5), 4) {
		mustTell(t, s.Free(id), api.ErrArg, "4.2: Free of what is not held")
	}
	mustTell(t, s.Free(3), api.OK, "4.2: Free")
	mustTell(t, s.Free(3), api.ErrArg, "4.2: Free of a page that is given back")
	mustHave(t, s, 0, 0, 1, "4.2: given back is not free")
	mustTell(t, s.Commit(3), api.ErrArg, "4.3: Commit of a page that is given back")
	mustTell(t, s.Commit(2), api.OK, "4.3: Commit")
	mustHave(t, s, 2, 1, 2, "4.3: what was given back is free")
	mustTell(t, s.Free(3), api.ErrArg, "4.2: Free of a page that is free")
	mustTell(t, s.Free(2), api.OK, "4.2: Free of the root")
	mustHave(t, s, 2, 1, 2, "4.2: Free of the root")
	mustTell(t, s.Commit(0), api.OK, "4.3: Commit")
	mustHave(t, s, 0, 2, 3, "4.3: what was given back is free")
}

func TestHold(t *testing.T) {
	s, _ := newStore(t, 7)
	mustTell(t, s.Hold(), api.OK, "4.2: Hold of none")
	mustTell(t, s.Hold([]int{}...), api.OK, "4.2: Hold of none")
	mustHave(t, s, 0, 0, 5, "4.2: Hold of none")
	mustTell(t, s.Hold(2), api.OK, "4.2: Hold of a free page")
	mustTell(t, s.Hold(6, 4, 6, 2), api.OK, "4.2: Hold of free and held pages, one of them twice")
	mustHave(t, s, 0, 0, 2, "4.2: Hold")
	mustTell(t, s.Free(4), api.OK, "4.2: a page that Hold held is given back")
	mustTell(t, s.Free(6), api.OK, "4.2: a page that Hold held is given back")
	mustTell(t, s.Hold(4), api.OK, "4.2: Hold of a page that is given back")
	mustHave(t, s, 0, 0, 2, "4.2: Hold of a page that is given back")
	mustTell(t, s.Commit(4), api.OK, "4.3: Commit of a page that Hold held")
	mustHave(t, s, 4, 1, 3, "4.2: what was given back and held again is not free")
	mustTell(t, s.Free(4), api.OK, "4.2: what was given back and held again is held")
	mustTell(t, s.Free(2), api.OK, "4.2: what was held twice is held")
	mustTell(t, s.Free(2), api.ErrArg, "4.2: a page is held once, however often it was")
}

func TestHoldOfWhatIsNoPage(t *testing.T) {
	s, _ := newStore(t, 6)
	mustTell(t, s.Hold(2), api.OK, "4.2: Hold")
	mustTell(t, s.Hold(3), api.OK, "4.2: Hold")
	mustTell(t, s.Free(3), api.OK, "4.2: Free")
	for _, id := range noPages(6) {
		mustTell(t, s.Hold(id), api.ErrArg, "4.2: Hold of what is no page")
		mustTell(t, s.Hold(id, 3, 4), api.ErrArg, "4.2: Hold of several, the first of which is no page")
		mustTell(t, s.Hold(3, id, 4), api.ErrArg, "4.2: Hold of several of which one is no page")
		mustTell(t, s.Hold(3, 4, id), api.ErrArg, "4.2: Hold of several, the last of which is no page")
	}
	mustHave(t, s, 0, 0, 2, "4.2: a refused Hold holds nothing")
	mustTell(t, s.Free(4), api.ErrArg, "4.2: a refused Hold holds nothing")
	mustTell(t, s.Free(3), api.ErrArg, "4.2: a refused Hold holds nothing")
	mustTell(t, s.Commit(2), api.OK, "4.3: Commit")
	mustHave(t, s, 2, 1, 3, "4.2: a refused Hold holds nothing")
}

func TestTheChaptersExample(t *testing.T) {
	s, d := newStore(t, 5)
	mustHave(t, s, 0, 0, 3, "4.1: a disk of 5 blocks")
	mustPut(t, s, []byte("a"), 2)
	mustPut(t, s, []byte("b"), 3)
	mustTell(t, s.Commit(3), api.OK, "4.3: Commit")
	mustHave(t, s, 3, 1, 1, "4.3: Commit")
	mustBlock(t, d, 1, headBytes(1, 3, 1), "4.3: Commit")
	mustTell(t, s.Free(2), api.OK, "4.2: Free")
	mustPut(t, s, []byte("c"), 4)
	mustNotPut(t, s, []byte("d"), api.ErrFull, "4.2: a page that is given back is not free")
	mustTell(t, s.Commit(4), api.OK, "4.3: Commit")
	mustHave(t, s, 4, 2, 1, "4.3: Commit")
	mustPut(t, s, []byte("d"), 2)
}

func TestStoresAreApart(t *testing.T) {
	s, d := newStore(t, 4)
	other, _ := newStore(t, 4)
	mustPut(t, s, []byte("a"), 2)
	mustTell(t, s.Commit(2), api.OK, "4.3: Commit")
	mustHave(t, other, 0, 0, 2, "4.1: a Store on another disk")
	second := mustOpen(t, d, 2, 1)
	mustHave(t, second, 2, 1, 2, "4.1: another Store on the disk")
	mustTell(t, s.Commit(0), api.OK, "4.3: Commit")
	mustHave(t, second, 2, 1, 2, "4.1: another Store on the disk")
	d.Cut(disk.Loss{})
	if !s.Dead() || !second.Dead() || other.Dead() {
		t.Error("4.4: a Store is dead with its disk")
	}
}

func TestWhatIsHandedInStays(t *testing.T) {
	s, _ := newStore(t, 5)
	room := filled(9000, 7)
	for _, size := range []int{0, 5, 8186, 8187} {
		s.Put(room[:size])
	}
	if !bytes.Equal(room, filled(9000, 7)) {
		t.Error("rule 2: what was handed in to Put is changed, or its spare room is")
	}
	ids := []int{4, 3, 2, 9, 9}
	s.Hold(ids[:3]...)
	s.Hold(ids...)
	if ids[0] != 4 || ids[1] != 3 || ids[2] != 2 || ids[3] != 9 || ids[4] != 9 {
		t.Error("rule 2: what was handed in to Hold is changed, or its spare room is")
	}
}

func spoil(b []byte) {
	b = b[:cap(b)]
	for i := range b {
		b[i] ^= 255
	}
}

func TestWhatIsHandedInIsNotKept(t *testing.T) {
	s, d := newStore(t, 4)
	short, long := filled(400, 1)[:100], filled(8186, 2)
	mustPut(t, s, short, 2)
	mustPut(t, s, long, 3)
	spoil(short)
	spoil(long)
	check := func() {
		t.Helper()
		mustGet(t, s, 2, filled(100, 1), "rule 2: what was handed in is kept")
		mustGet(t, s, 3, filled(8186, 2), "rule 2: what was handed in is kept")
	}
	check()
	ids := []int{2, 3}
	mustTell(t, s.Hold(ids...), api.OK, "4.2: Hold")
	ids[0], ids[1] = 0, 1
	mustTell(t, s.Commit(3), api.OK, "4.3: Commit")
	check()
	if _, e := d.Read(3); e != api.OK {
		t.Fatal("3.2: Read")
	}
	mustTell(t, s.Free(2), api.OK, "rule 2: what was handed in to Hold is kept")
}

func TestAnswersAreNewMemory(t *testing.T) {
	s, d := newStore(t, 7)
	for i, size := range []int{0, 1, 100, 8185, 8186} {
		mustPut(t, s, filled(size, 1), 2+i)
		for range 2 {
			a, _ := s.Get(2 + i)
			b, _ := s.Get(2 + i)
			kept := bytes.Clone(b[:cap(b)])
			spoil(a)
			if !bytes.Equal(b[:cap(b)], kept) {
				t.Errorf("rule 2: two answers of %d bytes share memory", size)
			}
			mustGet(t, s, 2+i, filled(size, 1), "rule 2: what was told is kept")
			d.Flush()
		}
	}
}
