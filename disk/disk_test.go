package disk

import (
	"bytes"
	"math"
	"testing"

	"headland/api"
)

func mustNew(t *testing.T, blocks int) *Disk {
	t.Helper()
	d, e := New(blocks)
	if d == nil || e != api.OK {
		t.Fatalf("3.1: New(%d): %v, %d", blocks, d, e)
	}
	return d
}

func mustWrite(t *testing.T, d *Disk, at int, b []byte) {
	t.Helper()
	if e := d.Write(at, b); e != api.OK {
		t.Fatalf("3.2: Write(%d) of %d bytes: %d", at, len(b), e)
	}
}

func mustFlush(t *testing.T, d *Disk) {
	t.Helper()
	if e := d.Flush(); e != api.OK {
		t.Fatalf("3.2: Flush: %d", e)
	}
}

// padded is a block that begins with some bytes.
func padded(b []byte) []byte {
	return append(bytes.Clone(b), make([]byte, api.Block-len(b))...)
}

// filled is bytes none of which is 0.
func filled(size int, first byte) []byte {
	b := make([]byte, size)
	for i := range b {
		b[i] = first + byte(i%101)
	}
	return b
}

// mustBe says that a block reads as some bytes, with bytes 0 behind them.
func mustBe(t *testing.T, d *Disk, at int, want []byte, why string) {
	t.Helper()
	got, e := d.Read(at)
	if e != api.OK || len(got) != api.Block {
		t.Fatalf("%s: Read(%d): %d bytes, %d", why, at, len(got), e)
	}
	if want = padded(want); !bytes.Equal(got, want) {
		i := 0
		for got[i] == want[i] {
			i++
		}
		t.Fatalf("%s: block %d has %d as its byte %d, not %d", why, at, got[i], i, want[i])
	}
}

func mustHaveState(t *testing.T, d *Disk, down bool, life, open int, why string) {
	t.Helper()
	if d.Down() != down || d.Life() != life || d.Open() != open {
		t.Fatalf("%s: Down %v, Life %d, Open %d; not %v, %d, %d", why, d.Down(), d.Life(), d.Open(), down, life, open)
	}
}

func TestNew(t *testing.T) {
	for _, n := range []int{1, 2, 3, 4095, 4096} {
		d := mustNew(t, n)
		if d.Blocks() != n {
			t.Errorf("3.1: New(%d) has %d blocks", n, d.Blocks())
		}
		mustHaveState(t, d, false, 0, 0, "3.1: a new disk")
		for _, at := range []int{0, n / 2, n - 1} {
			mustBe(t, d, at, nil, "3.1: a new disk")
		}
		if b, e := d.Read(n); len(b) != 0 || e != api.ErrArg {
			t.Errorf("3.1: New(%d) reads a block %d: %d bytes, %d", n, n, len(b), e)
		}
	}
	for _, n := range []int{0, -1, 4097, math.MinInt, math.MaxInt} {
		if d, e := New(n); d != nil || e != api.ErrArg {
			t.Errorf("3.1: New(%d): %v, %d", n, d, e)
		}
	}
}

func TestDisksAreApart(t *testing.T) {
	d, other := mustNew(t, 1), mustNew(t, 1)
	mustWrite(t, d, 0, []byte("a"))
	mustFlush(t, d)
	d.Arm(Loss{After: 1})
	mustBe(t, other, 0, nil, "3.1: another disk")
	mustFlush(t, other)
	d.Cut(Loss{})
	mustHaveState(t, other, false, 0, 0, "3.1: another disk")
}

func TestWriteReadsBack(t *testing.T) {
	d := mustNew(t, 3)
	mustWrite(t, d, 1, filled(api.Block, 1))
	mustBe(t, d, 1, filled(api.Block, 1), "3.2: an open write of a whole block")
	for _, size := range []int{0, 1, 2, 8191, 8192} {
		mustWrite(t, d, 1, filled(size, 2))
		mustBe(t, d, 1, filled(size, 2), "3.2: an open write over a longer one")
		mustWrite(t, d, 1, filled(api.Block, 3))
		mustFlush(t, d)
		mustWrite(t, d, 1, filled(size, 4))
		mustBe(t, d, 1, filled(size, 4), "3.2: an open write over a longer one that is kept")
		mustFlush(t, d)
		mustBe(t, d, 1, filled(size, 4), "3.2: a flushed write")
	}
	mustBe(t, d, 0, nil, "3.2: the block ahead")
	mustBe(t, d, 2, nil, "3.2: the block behind")
}

func TestWriteOfNilIsOfNoBytes(t *testing.T) {
	for _, b := range [][]byte{nil, {}} {
		d := mustNew(t, 1)
		mustWrite(t, d, 0, []byte("abc"))
		mustFlush(t, d)
		mustWrite(t, d, 0, b)
		mustHaveState(t, d, false, 0, 1, "3.2: a write of no bytes is an open write")
		mustBe(t, d, 0, nil, "3.2: a write of no bytes")
		mustFlush(t, d)
		mustBe(t, d, 0, nil, "3.2: a flushed write of no bytes")
	}
}

func TestEachBlockIsItsOwn(t *testing.T) {
	d := mustNew(t, api.MaxBlocks)
	for at := range api.MaxBlocks {
		mustWrite(t, d, at, []byte{byte(at >> 8), byte(at), 1})
	}
	mustHaveState(t, d, false, 0, api.MaxBlocks, "3.2: a write of each block")
	check := func(why string) {
		for at := range api.MaxBlocks {
			mustBe(t, d, at, []byte{byte(at >> 8), byte(at), 1}, why)
		}
	}
	check("3.2: each block's open write")
	mustFlush(t, d)
	check("3.2: each block, flushed")
}

func TestOpenCountsEachWrite(t *testing.T) {
	d := mustNew(t, 2)
	for i := range 200 {
		mustHaveState(t, d, false, 0, i, "3.2: open writes")
		mustWrite(t, d, i/150, []byte{byte(i)})
	}
	mustBe(t, d, 0, []byte{149}, "3.2: the last of several open writes")
	mustBe(t, d, 1, []byte{199}, "3.2: the last of several open writes")
	for range 2 {
		mustFlush(t, d)
		mustHaveState(t, d, false, 0, 0, "3.2: flushed")
	}
	mustBe(t, d, 0, []byte{149}, "3.2: the last of several writes, flushed")
	mustBe(t, d, 1, []byte{199}, "3.2: the last of several writes, flushed")
}

func TestRefusedWritesAndReads(t *testing.T) {
	d := mustNew(t, 3)
	mustWrite(t, d, 0, []byte("first"))
	mustWrite(t, d, 2, []byte("last"))
	for _, at := range []int{-1, 3, 4, math.MinInt, math.MaxInt} {
		if e := d.Write(at, []byte("x")); e != api.ErrArg {
			t.Errorf("3.2: Write(%d): %d", at, e)
		}
		if b, e := d.Read(at); len(b) != 0 || e != api.ErrArg {
			t.Errorf("3.2: Read(%d): %d bytes, %d", at, len(b), e)
		}
	}
	for _, size := range []int{8193, 16384} {
		for _, at := range []int{-1, 0, 1, 2, 3} {
			if e := d.Write(at, filled(size, 1)); e != api.ErrArg {
				t.Errorf("3.2: Write(%d) of %d bytes: %d", at, size, e)
			}
		}
	}
	mustHaveState(t, d, false, 0, 2, "3.2: refused writes")
	for _, flush := range []bool{false, true} {
		mustBe(t, d, 0, []byte("first"), "3.2: the first block behind refused writes")
		mustBe(t, d, 1, nil, "3.2: a block behind refused writes")
		mustBe(t, d, 2, []byte("last"), "3.2: the last block behind refused writes")
		if !flush {
			mustFlush(t, d)
		}
	}
}

func TestWithoutPowerComesAheadOfWrongInputs(t *testing.T) {
	d := mustNew(t, 3)
	mustWrite(t, d, 0, []byte("a"))
	mustFlush(t, d)
	d.Cut(Loss{Torn: -1})
	for _, at := range []int{-1, 0, 2, 3} {
		for _, size := range []int{0, 1, 8192, 8193} {
			if e := d.Write(at, filled(size, 1)); e != api.ErrDown {
				t.Errorf("3.2: Write(%d) of %d bytes without power: %d", at, size, e)
			}
		}
		if b, e := d.Read(at); len(b) != 0 || e != api.ErrDown {
			t.Errorf("3.2: Read(%d) without power: %d bytes, %d", at, len(b), e)
		}
	}
	if e := d.Flush(); e != api.ErrDown {
		t.Errorf("3.2: Flush without power: %d", e)
	}
	mustHaveState(t, d, true, 1, 0, "3.2: refused calls without power")
	if d.Blocks() != 3 {
		t.Errorf("3.3: %d blocks without power", d.Blocks())
	}
	d.Restart()
	mustHaveState(t, d, false, 1, 0, "3.2: refused calls without power")
	mustBe(t, d, 0, []byte("a"), "3.2: refused calls without power")
}

func TestWhatIsHandedInStays(t *testing.T) {
	d := mustNew(t, 2)
	room := filled(api.Block, 7)
	b := room[:5]
	mustWrite(t, d, 0, b)
	d.Flip(0, 0)
	d.Flip(0, 8*6)
	mustFlush(t, d)
	mustWrite(t, d, 0, b)
	d.Flip(0, 1)
	d.Cut(Loss{Torn: 0, Cut: 3})
	d.Flip(0, 2)
	d.Restart()
	mustWrite(t, d, 1, room)
	d.Flip(1, 65535)
	if !bytes.Equal(room, filled(api.Block, 7)) {
		t.Error("rule 2: what was handed in is changed, or its spare room is")
	}
}

func TestWhatIsHandedInIsNotKept(t *testing.T) {
	d := mustNew(t, 1)
	spoil := func(b []byte) {
		for i := range b[:cap(b)] {
			b[:cap(b)][i] = 255
		}
	}
	open, kept := filled(300, 1), filled(200, 2)[:100]
	mustWrite(t, d, 0, kept)
	mustFlush(t, d)
	spoil(kept)
	mustBe(t, d, 0, filled(100, 2), "rule 2: what is kept is what was handed in")
	mustWrite(t, d, 0, open)
	spoil(open)
	mustBe(t, d, 0, filled(300, 1), "rule 2: an open write is what was handed in")
	mustFlush(t, d)
	mustBe(t, d, 0, filled(300, 1), "rule 2: what is flushed is what was handed in")
}

func TestAnswersAreNewMemory(t *testing.T) {
	d := mustNew(t, 2)
	check := func(want []byte, why string) {
		t.Helper()
		for at := range 2 {
			a, _ := d.Read(at)
			b, _ := d.Read(at)
			a = a[:cap(a)]
			for i := range a {
				a[i]++
			}
			if !bytes.Equal(b, padded(want)) {
				t.Errorf("rule 2: %s: two answers share memory", why)
			}
			mustBe(t, d, at, want, "rule 2: "+why+": what was told is kept")
		}
	}
	check(nil, "a new disk")
	for _, size := range []int{0, 1, 5000, 8192} {
		for at := range 2 {
			mustWrite(t, d, at, filled(size, 1))
		}
		check(filled(size, 1), "an open write")
		mustFlush(t, d)
		check(filled(size, 1), "a flushed one")
		for at := range 2 {
			mustWrite(t, d, at, filled(8192, 9))
		}
		d.Cut(Loss{Torn: -1})
		d.Restart()
		check(filled(size, 1), "one behind a loss")
	}
}
