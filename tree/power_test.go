package tree

import (
	"fmt"
	"math/rand"
	"testing"

	"headland/api"
	"headland/disk"
	"headland/page"
)

// mustBeDead says that a tree is dead, and tells what it told.
func mustBeDead(t *testing.T, x *Tree, snaps []*Snap, was told, why string) {
	t.Helper()
	if !x.Dead() {
		t.Fatalf("5.3: %s: not dead", why)
	}
	long := make([]byte, 65)
	for _, key := range [][]byte{nil, []byte("a"), []byte(numbered(1)), long} {
		mustNotGet(t, x, key, api.ErrDown, "5.2: "+why)
		mustTell(t, x.Put(key, nil), api.ErrDown, "5.2: "+why+": Put")
		mustTell(t, x.Put(key, make([]byte, 1801)), api.ErrDown, "5.2: "+why+": Put")
		if gone, e := x.Delete(key); gone || e != api.ErrDown {
			t.Fatalf("5.2: %s: Delete: %v, %d", why, gone, e)
		}
		for _, most := range []int{-1, 0, 9} {
			mustNotRange(t, x, key, key, most, api.ErrDown, "5.2: "+why)
			for _, s := range snaps {
				mustNotRange(t, s, key, key, most, api.ErrDown, "5.4: "+why)
			}
		}
		for _, s := range snaps {
			mustNotGet(t, s, key, api.ErrDown, "5.4: "+why)
		}
	}
	mustTell(t, x.Commit(), api.ErrDown, "5.3: "+why+": Commit")
	mustTell(t, x.Rollback(), api.ErrDown, "5.3: "+why+": Rollback")
	mustTell(t, x.Check(), api.ErrDown, "5.5: "+why+": Check")
	if s, e := x.Snap(); s != nil || e != api.ErrDown {
		t.Fatalf("5.4: %s: Snap: %v, %d", why, s, e)
	}
	mustHaveTold(t, x, was, "5.3: "+why)
}

func TestDead(t *testing.T) {
	for _, keys := range []int{0, 3, 30} {
		x, d := grown(t, 200, keys)
		snaps := []*Snap{mustSnap(t, x), mustSnap(t, x), mustSnap(t, x), mustSnap(t, x)}
		mustPut(t, x, "b", "1")
		was := allTold(x)
		d.Cut(disk.Loss{Keep: keepAll, Torn: -1})
		mustBeDead(t, x, snaps, was, "without power")
		d.Restart()
		mustBeDead(t, x, snaps, was, "with power again")
		snaps[2].Close()
		mustBeDead(t, x, snaps, was, "with power again, behind Close")
		anew := mustOpen(t, d)
		mustPut(t, anew, "c", "2")
		mustCommit(t, anew)
		mustBeDead(t, x, snaps, was, "another one opened anew")
		for i, s := range snaps {
			s.Close()
			mustBeDead(t, x, snaps, was, fmt.Sprint("behind Close of ", i+1))
		}
		mustGet(t, anew, "c", "2", "5.1: opened anew")
		if anew.Dead() || anew.Len() != keys+1 {
			t.Errorf("5.1: opened anew: dead %v, %d keys", anew.Dead(), anew.Len())
		}
	}
}

// TestAPutThatIsCutShort: some of its pages were laid, and nothing tells of them.
func TestAPutThatIsCutShort(t *testing.T) {
	for after := 1; after <= 3; after++ {
		for _, change := range []string{"Put", "Delete"} {
			x, d := grown(t, 100, 30)
			if x.Depth() != 3 {
				t.Fatalf("5.5: 30 keys, %d deep", x.Depth())
			}
			mustPut(t, x, "zz", "")
			was := allTold(x)
			d.Arm(disk.Loss{After: after, Keep: keepAll, Torn: -1})
			var e api.Errno
			if change == "Put" {
				e = x.Put([]byte("zzz"), nil)
			} else {
				_, e = x.Delete([]byte("zz"))
			}
			mustTell(t, e, api.ErrDown, "5.2: "+change+" that is cut short")
			mustBeDead(t, x, nil, was, change+" that is cut short")
			d.Restart()
			x = mustOpen(t, d)
			mustTell(t, x.Check(), api.OK, "5.6: Check")
			mustNotGet(t, x, []byte("zz"), api.OK, "5.6: not committed")
			mustHaveRoom(t, x, d, "opened anew")
		}
	}
}

func TestACommitThatIsRefused(t *testing.T) {
	for after := 1; after <= 3; after++ {
		for _, l := range []disk.Loss{{Torn: -1}, {Keep: keepAll, Torn: -1}} {
			x, d := grown(t, 100, 12)
			old := spelledAll(t, x)
			mustPut(t, x, "z", "1")
			next, was := spelledAll(t, x), allTold(x)
			l.After = after
			d.Arm(l)
			mustTell(t, x.Commit(), api.ErrDown, "5.3: a Commit that the disk refuses")
			mustBeDead(t, x, nil, was, "a refused Commit")
			d.Restart()
			want := old
			if after == 3 && l.Keep != 0 {
				want = next
			}
			mustBe(t, mustOpen(t, d), want, "5.6: behind a refused Commit")
		}
	}
}

// TestTheLastNumber: a Commit that page.Commit refuses for another reason than power ends the tree too.
func TestTheLastNumber(t *testing.T) {
	d := newDisk(t, 9)
	s, _ := page.Open(d)
	root, _ := s.Put(leafPage("a b"))
	mustTell(t, d.Write(0, []byte{'h', 'e', 'a', 'd', 0x40, 0, 0, 0, 0, 0, 0, 0, 0, 0, 0, byte(root), 0, 0, 0, 0}), api.OK, "3.2: Write")
	x := mustOpen(t, d)
	if x.Number() != 1<<62 {
		t.Fatalf("5.3: Number %d", x.Number())
	}
	snap := mustSnap(t, x)
	mustPut(t, x, "c", "v")
	was := allTold(x)
	mustTell(t, x.Commit(), api.ErrFull, "5.3: what page.Commit refuses")
	mustBeDead(t, x, []*Snap{snap}, was, "behind ErrFull of a Commit")
	snap.Close()
	mustBeDead(t, x, []*Snap{snap}, was, "behind ErrFull of a Commit, and Close")
	if d.Down() {
		t.Error("the power went")
	}
	mustBe(t, mustOpen(t, d), "a=v b=v", "5.3: opened anew")
}

// script is changes and Commits, till one is refused; what was committed, and what was under way.
func script(x *Tree, r *rand.Rand, steps int) (kept, under string) {
	spell := func() string {
		l, _ := x.Range(nil, nil, plenty)
		return spelled(l)
	}
	kept = spell()
	under = kept
	var snap *Snap
	for i := range steps {
		key := []byte(numbered(r.Intn(40)))
		var e api.Errno
		switch n := r.Intn(12); {
		case n < 4:
			e = x.Put(key, []byte(fmt.Sprint(i)))
		case n < 7:
			_, e = x.Delete(key)
		case n == 7:
			e = x.Rollback()
		case n == 8 && snap == nil:
			snap, e = x.Snap()
		case n == 9 && snap != nil:
			snap.Close()
			snap = nil
		default:
			under = spell()
			e = x.Commit()
			if e == api.OK {
				kept = under
			}
		}
		if e == api.ErrDown {
			return kept, under
		}
		under = kept
	}
	return kept, under
}

func someLoss(r *rand.Rand, after int) disk.Loss {
	l := disk.Loss{After: after, Torn: -1}
	switch r.Intn(4) {
	case 0:
	case 1:
		l.Keep = keepAll
	case 2:
		l.Keep = r.Uint64()
	case 3:
		l.Keep, l.Torn, l.Cut = r.Uint64(), r.Intn(5), []int{0, 3, 6, 13, 17, 20, 100, 8191, 8192}[r.Intn(9)]
	}
	return l
}

// mustFind is the tree of a disk, which must be one of two.
func mustFind(t *testing.T, d *disk.Disk, kept, under, why string) *Tree {
	t.Helper()
	x := mustOpen(t, d)
	mustTell(t, x.Check(), api.OK, "5.6: "+why)
	if got := spelledAll(t, x); got != kept && got != under {
		t.Fatalf("5.6: %s: %s; not %s, nor %s", why, got, kept, under)
	}
	mustHaveRoom(t, x, d, why)
	return x
}

// TestWhateverPowerIsLost lets it go at each write and flush of a run.
func TestWhateverPowerIsLost(t *testing.T) {
	for seed := range int64(12) {
		for after := 1; after <= 90; after++ {
			d := newDisk(t, []int{30, 90}[seed%2])
			x := mustOpen(t, d)
			script(x, rand.New(rand.NewSource(seed+100)), 25)
			x.Commit()
			l := someLoss(rand.New(rand.NewSource(seed*1000+int64(after))), after)
			d.Arm(l)
			kept, under := script(x, rand.New(rand.NewSource(seed)), 50)
			d.Cut(l)
			d.Restart()
			mustFind(t, d, kept, under, fmt.Sprint("seed ", seed, ", ", l))
			d.Cut(l)
			d.Restart()
			mustFind(t, d, kept, under, "opened a second time")
		}
	}
}

// TestLossBehindLoss goes on with what was found, many times.
func TestLossBehindLoss(t *testing.T) {
	for seed := range int64(25) {
		r := rand.New(rand.NewSource(seed))
		d := newDisk(t, 20+int(seed)*2)
		x := mustOpen(t, d)
		for range 20 {
			l := someLoss(r, 1+r.Intn(40))
			d.Arm(l)
			kept, under := script(x, r, 40)
			d.Cut(l)
			d.Restart()
			x = mustFind(t, d, kept, under, fmt.Sprint("seed ", seed, ", ", l))
		}
	}
}

// TestAnOKCommitIsKept: at each write and flush of what follows it.
func TestAnOKCommitIsKept(t *testing.T) {
	for after := 1; after <= 12; after++ {
		for _, l := range []disk.Loss{{Torn: -1}, {Keep: keepAll, Torn: -1}, {Keep: keepAll, Torn: 0, Cut: 10}, {Keep: keepAll, Torn: 1, Cut: 4000}} {
			x, d := grown(t, 60, 25)
			mustPut(t, x, "a", "1")
			mustCommit(t, x)
			kept := spelledAll(t, x)
			l.After = after
			d.Arm(l)
			mustTellOneOf(t, x.Put([]byte("b"), nil))
			_, e := x.Delete([]byte(numbered(11)))
			mustTellOneOf(t, e)
			next := kept
			if !x.Dead() {
				next = spelledAll(t, x)
			}
			done := x.Commit() == api.OK
			d.Cut(l)
			d.Restart()
			if done {
				kept = next
			}
			mustFind(t, d, kept, next, fmt.Sprint("behind an OK Commit, ", l))
		}
	}
}

func mustTellOneOf(t *testing.T, e api.Errno) {
	t.Helper()
	if e != api.OK && e != api.ErrDown {
		t.Fatalf("5.6: %d, neither OK nor ErrDown", e)
	}
}
