package disk

import (
	"math"
	"testing"

	"headland/api"
)

// bitTurned is a block that begins with some bytes, with a bit turned.
func bitTurned(b []byte, bits ...int) []byte {
	b = padded(b)
	for _, bit := range bits {
		b[bit/8] ^= []byte{1, 2, 4, 8, 16, 32, 64, 128}[bit%8]
	}
	return b
}

func edgeBits() []int { return []int{0, 1, 7, 8, 15, 16, 32767, 32768, 65528, 65534, 65535} }

func mustFlip(t *testing.T, d *Disk, at, bit int) {
	t.Helper()
	if e := d.Flip(at, bit); e != api.OK {
		t.Fatalf("3.4: Flip(%d, %d): %d", at, bit, e)
	}
}

func TestFlipOfWhatIsKept(t *testing.T) {
	for _, size := range []int{0, 1, 5000, 8192} {
		for _, bit := range edgeBits() {
			d := mustNew(t, 3)
			mustWrite(t, d, 1, filled(size, 1))
			mustFlush(t, d)
			mustFlip(t, d, 1, bit)
			mustBe(t, d, 1, bitTurned(filled(size, 1), bit), "3.4: a turned bit of what is kept")
			mustHaveState(t, d, false, 0, 0, "3.4: Flip is no write")
			d.Cut(Loss{Torn: -1})
			d.Restart()
			mustBe(t, d, 1, bitTurned(filled(size, 1), bit), "3.4: a turned bit stays, whatever power is lost")
			mustFlip(t, d, 1, bit)
			mustBe(t, d, 1, filled(size, 1), "3.4: a bit turned twice")
			mustBe(t, d, 0, nil, "3.4: the block ahead")
			mustBe(t, d, 2, nil, "3.4: the block behind")
		}
	}
}

func TestFlipOfEachBitOfSomeBytes(t *testing.T) {
	d := mustNew(t, 1)
	for bit := range 64 {
		mustFlip(t, d, 0, bit)
		b, _ := d.Read(0)
		for i, c := range b[:9] {
			if on := i*8 + 7; on <= bit && c != 255 || i*8 > bit && c != 0 || on > bit && i*8 <= bit && int(c) != 1<<(bit%8+1)-1 {
				t.Fatalf("3.4: bits 0 to %d turned: byte %d is %d", bit, i, c)
			}
		}
	}
}

func TestFlipOfEachOpenWrite(t *testing.T) {
	for _, bit := range edgeBits() {
		for kept := range 5 {
			d := mustNew(t, 2)
			writes := [][]byte{filled(10, 1), filled(8192, 2), nil, filled(1, 3)}
			mustWrite(t, d, 0, filled(20, 9))
			mustWrite(t, d, 1, filled(30, 8))
			mustFlush(t, d)
			for _, w := range writes {
				mustWrite(t, d, 0, w)
			}
			mustWrite(t, d, 1, filled(40, 7))
			mustFlip(t, d, 0, bit)
			mustHaveState(t, d, false, 0, 5, "3.4: Flip is no write")
			mustBe(t, d, 0, bitTurned(filled(1, 3), bit), "3.4: a turned bit of the last open write")
			mustBe(t, d, 1, filled(40, 7), "3.4: another block's open write")
			want := filled(20, 9)
			if kept < 4 {
				want = writes[kept]
			}
			d.Cut(Loss{Keep: 1 << kept, Torn: -1})
			d.Restart()
			mustBe(t, d, 0, bitTurned(want, bit), "3.4: a turned bit of the open write that was kept")
			mustBe(t, d, 1, map[bool][]byte{false: filled(30, 8), true: filled(40, 7)}[kept == 4], "3.4: another block")
		}
	}
}

func TestFlipOfATornWrite(t *testing.T) {
	d := mustNew(t, 1)
	mustWrite(t, d, 0, []byte("abcdef"))
	mustFlush(t, d)
	mustWrite(t, d, 0, []byte("ABCDEF"))
	mustFlip(t, d, 0, 8)
	mustFlip(t, d, 0, 5*8)
	d.Cut(Loss{Torn: 0, Cut: 3})
	d.Restart()
	mustBe(t, d, 0, []byte("ACCdeg"), "3.4: bits turned ahead of a cut and behind it")
}

func TestLaterWritesAreNotTurned(t *testing.T) {
	d := mustNew(t, 1)
	mustFlip(t, d, 0, 3)
	mustWrite(t, d, 0, []byte("abc"))
	mustBe(t, d, 0, []byte("abc"), "3.4: a write behind Flip")
	d.Cut(Loss{Torn: 0, Cut: 0})
	d.Restart()
	mustBe(t, d, 0, []byte{8}, "3.4: what is kept, turned ahead of a write that was lost")
}

func TestFlipWithoutPower(t *testing.T) {
	d := mustNew(t, 2)
	mustWrite(t, d, 0, []byte("abc"))
	mustFlush(t, d)
	d.Cut(Loss{})
	mustFlip(t, d, 0, 0)
	mustFlip(t, d, 1, 65535)
	mustHaveState(t, d, true, 1, 0, "3.4: Flip without power")
	for _, c := range [][2]int{{-1, 0}, {2, 0}, {0, -1}, {0, 65536}} {
		if e := d.Flip(c[0], c[1]); e != api.ErrArg {
			t.Errorf("3.4: Flip(%d, %d) without power: %d", c[0], c[1], e)
		}
	}
	d.Restart()
	mustBe(t, d, 0, []byte("`bc"), "3.4: a bit turned without power")
	mustBe(t, d, 1, bitTurned(nil, 65535), "3.4: a bit turned without power")
}

func TestRefusedFlips(t *testing.T) {
	d := mustNew(t, 3)
	mustWrite(t, d, 0, []byte("first"))
	mustFlush(t, d)
	mustWrite(t, d, 2, []byte("last"))
	for _, at := range []int{-1, 3, math.MinInt, math.MaxInt} {
		for _, bit := range []int{-1, 0, 65535, 65536} {
			if e := d.Flip(at, bit); e != api.ErrArg {
				t.Errorf("3.4: Flip(%d, %d): %d", at, bit, e)
			}
		}
	}
	for at := range 3 {
		for _, bit := range []int{-1, 65536, math.MinInt, math.MaxInt} {
			if e := d.Flip(at, bit); e != api.ErrArg {
				t.Errorf("3.4: Flip(%d, %d): %d", at, bit, e)
			}
		}
	}
	mustHaveState(t, d, false, 0, 1, "3.4: refused")
	mustBe(t, d, 0, []byte("first"), "3.4: refused")
	mustBe(t, d, 1, nil, "3.4: refused")
	mustBe(t, d, 2, []byte("last"), "3.4: refused")
	mustFlip(t, d, 0, 0)
	mustFlip(t, d, 2, 65535)
}

func TestFlipIsNotCountedByArm(t *testing.T) {
	d := mustNew(t, 1)
	d.Arm(Loss{After: 2})
	mustFlip(t, d, 0, 0)
	mustFlip(t, d, 0, 1)
	d.Flip(0, -1)
	mustFlush(t, d)
	if e := d.Flush(); e != api.ErrDown {
		t.Errorf("3.3: the second call that Arm counts: %d", e)
	}
	mustHaveState(t, d, true, 1, 0, "3.3: armed")
}
