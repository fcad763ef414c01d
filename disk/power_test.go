package disk

import (
	"math"
	"testing"

	"headland/api"
)

func TestTheChaptersExample(t *testing.T) {
	d := mustNew(t, 2)
	mustWrite(t, d, 0, []byte("a"))
	mustFlush(t, d)
	mustWrite(t, d, 0, []byte("b"))
	mustWrite(t, d, 1, []byte("c"))
	d.Cut(Loss{Keep: 2, Torn: -1})
	d.Restart()
	mustBe(t, d, 0, []byte("a"), "3.3: the chapter's example")
	mustBe(t, d, 1, []byte("c"), "3.3: the chapter's example")
}

// threeOpen has three open writes of block 0 over what is kept, and one of block 1 among them.
func threeOpen(t *testing.T) *Disk {
	d := mustNew(t, 2)
	mustWrite(t, d, 0, []byte("kept"))
	mustWrite(t, d, 1, []byte("other"))
	mustFlush(t, d)
	mustWrite(t, d, 0, []byte("0000000000"))
	mustWrite(t, d, 0, []byte("1111111"))
	mustWrite(t, d, 1, []byte("2222"))
	mustWrite(t, d, 0, []byte("33333"))
	return d
}

func TestKeptAndLost(t *testing.T) {
	for _, c := range []struct {
		keep        uint64
		first, next string
	}{
		{0, "kept", "other"},
		{1, "0000000000", "other"},
		{2, "1111111", "other"},
		{3, "1111111", "other"},
		{4, "kept", "2222"},
		{5, "0000000000", "2222"},
		{8, "33333", "other"},
		{9, "33333", "other"},
		{15, "33333", "2222"},
		{16, "kept", "other"},
		{math.MaxUint64, "33333", "2222"},
		{math.MaxUint64 - 15, "kept", "other"},
	} {
		for _, torn := range []int{-1, -2, 4, 5, 64, 67, math.MinInt, math.MaxInt} {
			d := threeOpen(t)
			d.Cut(Loss{Keep: c.keep, Torn: torn, Cut: 2})
			mustHaveState(t, d, true, 1, 0, "3.3: Cut")
			d.Restart()
			mustHaveState(t, d, false, 1, 0, "3.3: Restart")
			mustBe(t, d, 0, []byte(c.first), "3.3: what is kept of block 0")
			mustBe(t, d, 1, []byte(c.next), "3.3: what is kept of block 1")
		}
	}
}

func TestTornAmongOthers(t *testing.T) {
	for _, c := range []struct {
		keep        uint64
		torn, cut   int
		first, next string
	}{
		{0, 0, 2, "00pt", "other"},
		{0, 0, 6, "000000", "other"},
		{1, 0, 2, "00pt", "other"},
		{1, 1, 2, "1100000000", "other"},
		{3, 1, 2, "1100000000", "other"},
		{1, 1, 8, "1111111\x0000", "other"},
		{3, 3, 3, "3331111", "other"},
		{11, 3, 6, "33333\x001", "other"},
		{11, 1, 2, "33333", "other"},
		{2, 0, 2, "1111111", "other"},
		{0, 2, 3, "kept", "222er"},
		{15, 2, 3, "33333", "222er"},
		{15, 2, 4, "33333", "2222r"},
		{15, 2, 5, "33333", "2222"},
	} {
		d := threeOpen(t)
		d.Cut(Loss{Keep: c.keep, Torn: c.torn, Cut: c.cut})
		d.Restart()
		mustBe(t, d, 0, []byte(c.first), "3.3: what is kept of block 0")
		mustBe(t, d, 1, []byte(c.next), "3.3: what is kept of block 1")
	}
}

func TestEdgesOfCut(t *testing.T) {
	for _, c := range []struct{ cut, kept int }{
		{math.MinInt, 0}, {-1, 0}, {0, 0}, {1, 1}, {2, 2}, {4999, 4999}, {5000, 5000}, {5001, 5001}, {8191, 8191}, {8192, 8192}, {8193, 8192}, {math.MaxInt, 8192},
	} {
		for _, keep := range []uint64{0, 1, math.MaxUint64} {
			for _, size := range []int{0, 1, 5000, 8192} {
				d := mustNew(t, 1)
				mustWrite(t, d, 0, filled(api.Block, 1))
				mustFlush(t, d)
				mustWrite(t, d, 0, filled(size, 100))
				d.Cut(Loss{Keep: keep, Torn: 0, Cut: c.cut})
				d.Restart()
				want := append(padded(filled(size, 100))[:c.kept:c.kept], filled(api.Block, 1)[c.kept:]...)
				mustBe(t, d, 0, want, "3.3: the first bytes of a torn write alone")
			}
		}
	}
}

func TestKeepIsModulo64(t *testing.T) {
	const writes = 200
	for _, keep := range []uint64{0, 1, 1 << 3, 1 << 63, 1<<63 | 1, 0x5555555555555555, math.MaxUint64} {
		for _, torn := range []int{-1, 0, 3, 63, 64, 67, 131, 199, 200} {
			d := mustNew(t, writes)
			for i := range writes {
				mustWrite(t, d, i, filled(9, byte(i)+1))
			}
			mustHaveState(t, d, false, 0, writes, "3.2: open writes")
			d.Cut(Loss{Keep: keep, Torn: torn, Cut: 4})
			d.Restart()
			for i := range writes {
				size := 0
				if keep&(1<<(i%64)) != 0 {
					size = 9
				}
				if i == torn {
					size = 4
				}
				mustBe(t, d, i, filled(9, byte(i)+1)[:size], "3.3: more than 64 open writes")
			}
		}
	}
}

func TestNumbersBeginAnewBehindAFlush(t *testing.T) {
	d := mustNew(t, 3)
	mustWrite(t, d, 0, []byte("aa"))
	mustWrite(t, d, 0, []byte("bb"))
	mustFlush(t, d)
	mustWrite(t, d, 1, []byte("cc"))
	mustWrite(t, d, 2, []byte("dd"))
	d.Cut(Loss{Keep: 2, Torn: 0, Cut: 1})
	d.Restart()
	mustBe(t, d, 0, []byte("bb"), "3.3: what was flushed")
	mustBe(t, d, 1, []byte("c"), "3.3: the first open write behind a Flush")
	mustBe(t, d, 2, []byte("dd"), "3.3: the second one")
	mustWrite(t, d, 1, []byte("ee"))
	d.Cut(Loss{Keep: 1, Torn: 1})
	d.Restart()
	mustBe(t, d, 1, []byte("ee"), "3.3: the first open write behind a Restart")
}

func TestRefusedWritesHaveNoNumber(t *testing.T) {
	d := mustNew(t, 2)
	d.Write(-1, []byte("x"))
	mustWrite(t, d, 0, []byte("aa"))
	d.Write(2, []byte("x"))
	d.Write(0, make([]byte, 8193))
	mustWrite(t, d, 1, []byte("bb"))
	d.Cut(Loss{Keep: 2, Torn: -1})
	d.Restart()
	mustBe(t, d, 0, nil, "3.3: the write with the number 0")
	mustBe(t, d, 1, []byte("bb"), "3.3: the write with the number 1")
}

func TestCutWithoutPower(t *testing.T) {
	d := threeOpen(t)
	d.Cut(Loss{Keep: 1, Torn: -1})
	for range 3 {
		d.Cut(Loss{Keep: math.MaxUint64, Torn: 0, Cut: 8192})
		mustHaveState(t, d, true, 1, 0, "3.3: Cut without power")
	}
	d.Restart()
	mustBe(t, d, 0, []byte("0000000000"), "3.3: Cut without power")
	for life := 2; life < 6; life++ {
		d.Cut(Loss{})
		mustHaveState(t, d, true, life, 0, "3.3: Life")
		d.Restart()
		mustHaveState(t, d, false, life, 0, "3.3: Life")
	}
}

func TestCutHasNoAfter(t *testing.T) {
	for _, after := range []int{math.MinInt, -1, 0, 1, 9, math.MaxInt} {
		d := threeOpen(t)
		d.Cut(Loss{After: after, Keep: 1, Torn: -1})
		mustHaveState(t, d, true, 1, 0, "3.3: the power goes now")
		d.Restart()
		for range 10 {
			mustFlush(t, d)
		}
	}
}

func TestRestartWithPower(t *testing.T) {
	d := threeOpen(t)
	d.Arm(Loss{After: 2, Keep: 4, Torn: -1})
	d.Restart()
	mustHaveState(t, d, false, 0, 4, "3.3: Restart with power")
	mustBe(t, d, 0, []byte("33333"), "3.3: Restart with power")
	mustWrite(t, d, 0, []byte("4"))
	d.Restart()
	if e := d.Flush(); e != api.ErrDown {
		t.Errorf("3.3: what was armed ahead of a Restart with power: %d", e)
	}
	mustHaveState(t, d, true, 1, 0, "3.3: armed")
	d.Restart()
	d.Restart()
	mustHaveState(t, d, false, 1, 0, "3.3: Restart, twice")
	mustBe(t, d, 0, []byte("kept"), "3.3: what is kept")
	mustBe(t, d, 1, []byte("2222"), "3.3: what is kept")
}

func TestArmCountsWritesAndFlushes(t *testing.T) {
	for after := 1; after <= 8; after++ {
		for calls := range 1 << 8 {
			d := mustNew(t, 1)
			d.Arm(Loss{After: after, Torn: -1})
			for i := range 8 {
				want := api.OK
				if i+1 >= after {
					want = api.ErrDown
				}
				e := d.Flush
				if calls>>i&1 == 1 {
					e = func() api.Errno { return d.Write(0, []byte{byte(i)}) }
				}
				if got := e(); got != want {
					t.Fatalf("3.3: Arm, After %d: call %d of %b: %d", after, i+1, calls, got)
				}
				if d.Down() != (i+1 >= after) {
					t.Fatalf("3.3: Arm, After %d: Down is %v behind call %d", after, d.Down(), i+1)
				}
			}
		}
	}
}

func TestTheArmedCallDoesNothingElse(t *testing.T) {
	for _, keep := range []uint64{1, math.MaxUint64} {
		for _, torn := range []int{-1, 1, 2} {
			d := mustNew(t, 1)
			mustWrite(t, d, 0, []byte("first"))
			d.Arm(Loss{After: 1, Keep: keep, Torn: torn, Cut: 8192})
			if e := d.Write(0, []byte("second")); e != api.ErrDown {
				t.Errorf("3.3: the armed Write: %d", e)
			}
			mustHaveState(t, d, true, 1, 0, "3.3: the armed Write")
			d.Restart()
			mustBe(t, d, 0, []byte("first"), "3.3: the armed Write is none")
		}
	}
	for _, c := range []struct {
		l    Loss
		want string
	}{{Loss{Torn: -1}, "kept"}, {Loss{Keep: 2, Torn: -1}, "1111111"}, {Loss{Torn: 3, Cut: 2}, "33pt"}} {
		d := threeOpen(t)
		c.l.After = 1
		d.Arm(c.l)
		if e := d.Flush(); e != api.ErrDown {
			t.Errorf("3.3: the armed Flush: %d", e)
		}
		mustHaveState(t, d, true, 1, 0, "3.3: the armed Flush")
		d.Restart()
		mustBe(t, d, 0, []byte(c.want), "3.3: the armed Flush keeps nothing but what the Loss says")
	}
}

func TestArmedWritesCountThoseAheadOfArm(t *testing.T) {
	d := mustNew(t, 3)
	mustWrite(t, d, 0, []byte("a"))
	d.Arm(Loss{After: 2, Keep: 2, Torn: -1})
	mustWrite(t, d, 1, []byte("b"))
	if e := d.Write(2, []byte("c")); e != api.ErrDown {
		t.Errorf("3.3: armed: %d", e)
	}
	d.Restart()
	for at, want := range []string{"", "b", ""} {
		mustBe(t, d, at, []byte(want), "3.3: numbers are of all open writes")
	}
}

func TestArmDoesNotCountWhatIsRefused(t *testing.T) {
	d := mustNew(t, 2)
	d.Arm(Loss{After: 2, Keep: math.MaxUint64, Torn: -1})
	refused := func() {
		t.Helper()
		for _, e := range []api.Errno{d.Write(-1, nil), d.Write(2, nil), d.Write(0, make([]byte, 8193)), d.Flip(9, 9)} {
			if e != api.ErrArg {
				t.Fatalf("3.3: a refused call while armed: %d", e)
			}
		}
		if b, e := d.Read(2); len(b) != 0 || e != api.ErrArg {
			t.Fatalf("3.3: a refused Read while armed: %d", e)
		}
		if _, e := d.Read(1); e != api.OK {
			t.Fatalf("3.3: a Read while armed: %d", e)
		}
	}
	refused()
	mustWrite(t, d, 0, []byte("a"))
	refused()
	if e := d.Write(1, []byte("b")); e != api.ErrDown || !d.Down() {
		t.Errorf("3.3: the second call that is not refused: %d", e)
	}
	d.Restart()
	mustBe(t, d, 0, []byte("a"), "3.3: what the Loss keeps")
	mustBe(t, d, 1, nil, "3.3: the armed call")
}

func TestALaterArm(t *testing.T) {
	d := threeOpen(t)
	d.Arm(Loss{After: 1, Keep: 1, Torn: -1})
	d.Arm(Loss{After: 2, Keep: 4, Torn: -1})
	mustWrite(t, d, 0, []byte("4"))
	d.Arm(Loss{After: 3, Keep: 2, Torn: 2, Cut: 1})
	mustWrite(t, d, 0, []byte("5"))
	mustWrite(t, d, 0, []byte("6"))
	if e := d.Flush(); e != api.ErrDown {
		t.Errorf("3.3: a later Arm: %d", e)
	}
	d.Restart()
	mustBe(t, d, 0, []byte("1111111"), "3.3: a later Arm's Loss")
	mustBe(t, d, 1, []byte("2ther"), "3.3: a later Arm's Loss")
	for range 5 {
		mustFlush(t, d)
	}
	mustHaveState(t, d, false, 1, 0, "3.3: an earlier Arm")
}

func TestArmWithAfterBelow1(t *testing.T) {
	for _, after := range []int{0, -1, -2, math.MinInt} {
		for _, armed := range []bool{false, true} {
			d := threeOpen(t)
			if armed {
				d.Arm(Loss{After: 1})
			}
			d.Arm(Loss{After: after, Torn: -1})
			for range 70 {
				mustWrite(t, d, 0, []byte("a"))
				mustFlush(t, d)
			}
			mustHaveState(t, d, false, 0, 0, "3.3: nothing is armed")
		}
	}
	d := mustNew(t, 1)
	d.Arm(Loss{After: math.MaxInt})
	for range 70 {
		mustFlush(t, d)
	}
}

func TestArmWithoutPower(t *testing.T) {
	d := threeOpen(t)
	d.Cut(Loss{Torn: -1})
	d.Arm(Loss{After: 1})
	mustHaveState(t, d, true, 1, 0, "3.3: Arm without power")
	if e := d.Flush(); e != api.ErrDown {
		t.Errorf("3.3: Flush without power: %d", e)
	}
	mustHaveState(t, d, true, 1, 0, "3.3: Flush without power")
	d.Restart()
	for range 3 {
		mustWrite(t, d, 0, []byte("a"))
		mustFlush(t, d)
	}
	mustHaveState(t, d, false, 1, 0, "3.3: what was armed without power")
}

func TestLosingPowerDisarms(t *testing.T) {
	d := mustNew(t, 1)
	d.Arm(Loss{After: 1})
	d.Cut(Loss{})
	d.Restart()
	mustFlush(t, d)
	d.Arm(Loss{After: 2})
	mustFlush(t, d)
	if e := d.Write(0, nil); e != api.ErrDown {
		t.Errorf("3.3: armed: %d", e)
	}
	d.Restart()
	for range 5 {
		mustFlush(t, d)
	}
	mustHaveState(t, d, false, 2, 0, "3.3: losing power disarms")
}
