package tree

import (
	"fmt"
	"testing"

	"headland/api"
	"headland/disk"
)

// TestWhatIsPutOverAndOver: what was laid since the last Commit, and is needed by nobody, is room.
func TestWhatIsPutOverAndOver(t *testing.T) {
	for _, keys := range []int{1, 4, 5, 20, 53} {
		for at := 0; at < keys; at += 1 + keys/5 {
			again := func(x *Tree) api.Errno { return x.Put([]byte(numbered(at)), []byte("again")) }
			whole, on := grown(t, 100, keys)
			x, d := packed(t, whole, on, taken(t, keys, again))
			was, old := allTold(x), spelledAll(t, x)
			s := mustSnap(t, x)
			for i := range 60 {
				mustPut(t, x, numbered(at), fmt.Sprint("round ", i))
				mustGet(t, x, numbered(at), fmt.Sprint("round ", i), "5.2: put over and over")
				if x.Left() < 0 || x.Left() > was.left {
					t.Fatalf("5.5: %d left of %d", x.Left(), was.left)
				}
			}
			mustBe(t, s, old, "5.4: a Snap beside what is put over and over")
			mustBeWellShaped(t, x, d)
			mustTell(t, x.Rollback(), api.OK, "5.3: Rollback")
			mustHaveTold(t, x, was, "5.3: rolled back")
			mustBe(t, x, old, "5.3: rolled back")
			s.Close()
			mustPut(t, x, numbered(at), "once")
			mustPut(t, x, numbered(at), "twice")
			mustCommit(t, x)
			mustHaveRoom(t, x, d, "behind a Commit")
			mustGet(t, mustOpen(t, d), numbered(at), "twice", "5.6: opened anew")
		}
	}
}

// TestEmptiedInOneCommit: from the first key on, that takes little room however many keys there are.
func TestEmptiedInOneCommit(t *testing.T) {
	for _, keys := range []int{1, 4, 5, 6, 14, 17, 53, 90, 200} {
		for order, puts := range orders(keys) {
			whole, on := newTree(t, 400)
			for _, i := range puts {
				mustPut(t, whole, numbered(i), order)
				mustCommit(t, whole)
			}
			x, d := packed(t, whole, on, 2*whole.Depth()-1)
			old, was := spelledAll(t, x), allTold(x)
			for range 2 {
				for i := range keys {
					mustDelete(t, x, numbered(i), true)
				}
				mustBe(t, x, "", "5.2: emptied")
				mustBe(t, mustOpen(t, d), old, "5.3: nothing is committed")
				mustTell(t, x.Rollback(), api.OK, "5.3: Rollback")
				mustBe(t, x, old, "5.3: rolled back")
				mustHaveTold(t, x, was, "5.3: rolled back")
			}
			for i := range keys {
				mustDelete(t, x, numbered(i), true)
			}
			mustPut(t, x, "k", "v")
			mustCommit(t, x)
			mustBeWellShaped(t, x, d)
			mustHaveRoom(t, x, d, "behind a Commit")
			mustBe(t, mustOpen(t, d), "k=v", "5.6: opened anew")
		}
	}
}

// TestASnapHasItsRoom: what a Snap needs is no room for changes, however short it is.
func TestASnapHasItsRoom(t *testing.T) {
	whole, on := grown(t, 100, 30)
	x, d := packed(t, whole, on, 12)
	s, old := mustSnap(t, x), spelledAll(t, x)
	full := false
	for i := range 30 {
		_, e := x.Delete([]byte(numbered(i)))
		if full = full || e == api.ErrFull; e != api.OK && e != api.ErrFull {
			t.Fatalf("5.2: Delete: %d", e)
		}
		if e = x.Commit(); e != api.OK {
			t.Fatalf("5.3: Commit: %d", e)
		}
		mustBe(t, s, old, "5.4: a Snap")
		mustBeWellShaped(t, x, d)
	}
	if x.Left() < 0 || !full && x.Len() > 0 {
		t.Errorf("5.4: %d left, %d keys", x.Left(), x.Len())
	}
}

// TestRoomIsNotMadeOfADiskThatIsAnothers: a head that another one wrote, or that does not read, says nothing of what is free.
func TestRoomIsNotMadeOfADiskThatIsAnothers(t *testing.T) {
	for why, spoil := range map[string]func(*disk.Disk){
		"a head turned": func(d *disk.Disk) { d.Flip(1, 3) },
		"another's Commit": func(d *disk.Disk) {
			y, _ := Open(d)
			y.Commit()
		},
	} {
		whole, on := grown(t, 100, 3)
		x, d := packed(t, whole, on, 1)
		mustPut(t, x, numbered(0), "once")
		spoil(d)
		was := allTold(x)
		mustTell(t, x.Put([]byte(numbered(0)), nil), api.ErrFull, "5.2: "+why)
		mustHaveTold(t, x, was, "5.2: "+why)
		mustGet(t, x, numbered(0), "once", "5.2: "+why)
	}
}

// TestPowerLostWhereRoomIsMade: the pages that are written anew are none that the last Commit needs.
func TestPowerLostWhereRoomIsMade(t *testing.T) {
	for after := 1; after <= 40; after++ {
		for _, l := range []disk.Loss{{Torn: -1}, {Keep: keepAll, Torn: -1}, {Keep: keepAll, Torn: after % 5, Cut: 3000}} {
			whole, on := grown(t, 100, 30)
			x, d := packed(t, whole, on, 2*whole.Depth()-1)
			old := spelledAll(t, x)
			l.After = after
			d.Arm(l)
			for i := range 30 {
				if _, e := x.Delete([]byte(numbered(i))); e != api.OK {
					mustTell(t, e, api.ErrDown, "5.2: Delete with room")
				}
			}
			d.Cut(l)
			d.Restart()
			mustFind(t, d, old, old, fmt.Sprint("not committed, ", l))
		}
	}
}
