package local

import (
	"fmt"
	"math/rand"
	"slices"
	"testing"

	"headland/api"
	"headland/disk"
)

// packed is a store of some pairs on a disk on which so many pages are left.
func packed(t *testing.T, l []api.Pair, pos, left int) (*Store, *disk.Disk) {
	t.Helper()
	return imported(t, l, pos, pagesOf(t, l, pos)+left+2, left)
}

func pagesOf(t *testing.T, l []api.Pair, pos int) int {
	t.Helper()
	s, _ := newStore(t, 1000)
	mustImport(t, s, pos, l...)
	return s.Pages()
}

func imported(t *testing.T, l []api.Pair, pos, blocks, left int) (*Store, *disk.Disk) {
	t.Helper()
	s, d := newStore(t, blocks)
	mustImport(t, s, pos, l...)
	if s.Left() != left {
		t.Fatalf("6.4: %d left, not %d", s.Left(), left)
	}
	return s, d
}

// arranged is as many pairs as asked for, in several orders: of each another tree comes.
func arranged(count int) map[string][]api.Pair {
	up := slices.SortedFunc(slices.Values(filled(count)), func(a, b api.Pair) int {
		return slices.Compare(treeKey(a.Space, a.Key), treeKey(b.Space, b.Key))
	})
	down := slices.Clone(up)
	slices.Reverse(down)
	return map[string][]api.Pair{"up": up, "down": down, "mixed": filled(count)}
}

// someChanges is changes of keys that are there and of others.
func someChanges(r *rand.Rand, count, among int) []api.Change {
	l := make([]api.Change, count)
	for i := range l {
		n := r.Intn(among + among/3 + 1)
		l[i] = laid(n%5*3, fmt.Sprintf("k%04d", n), fmt.Sprint("w", r.Intn(100)))
		l[i].Gone = r.Intn(2) == 0
	}
	return l
}

// deepest is how deep the tree is at most, while changes are made one behind the other.
func deepest(t *testing.T, s *Store, pos int, l []api.Change) int {
	t.Helper()
	depth := s.Depth()
	for _, c := range l {
		mustApply(t, s, s.Pos(), c)
		depth = max(depth, s.Depth())
	}
	mustApply(t, s, pos)
	return max(depth, s.Depth())
}

func TestAsMuchRoomAsIsEnoughForAnApply(t *testing.T) {
	r := rand.New(rand.NewSource(63))
	for _, count := range []int{0, 1, 3, 4, 5, 16, 40, 90} {
		for order, pairs := range arranged(count) {
			for _, k := range []int{0, 1, 2, 7, 30} {
				l := someChanges(r, k, count)
				pos := 5 + k%2
				roomy, _ := packed(t, pairs, 5, 600)
				depth := deepest(t, roomy, pos, l)
				s, d := packed(t, pairs, 5, (k+1)*(3*depth+1))
				mustTell(t, s.Apply(pos, l), api.OK, fmt.Sprint("6.3: Apply of ", k, " changes, of ", count, " pairs ", order))
				mustBe(t, s, whole(t, roomy), "6.3: Apply with as much room as is enough")
				mustBe(t, mustOpen(t, d), whole(t, roomy), "6.3: Apply with as much room as is enough")
			}
		}
	}
}

func TestAsMuchRoomAsIsEnoughForAnImport(t *testing.T) {
	for _, count := range []int{0, 1, 4, 5, 16, 50, 150} {
		for order, pairs := range arranged(count) {
			for _, k := range []int{0, 1, 2, 20} {
				for pos := range 2 {
					l := filled(k)
					roomy, _ := packed(t, l, pos, 100)
					old, _ := packed(t, pairs, 5, 100)
					depth := max(roomy.Depth(), old.Depth())
					s, d := packed(t, pairs, 5, (k+1)*(2*depth+1))
					mustTell(t, s.Import(l, pos), api.OK, fmt.Sprint("6.4: Import of ", k, " pairs, over ", count, " pairs ", order))
					mustBe(t, s, whole(t, roomy), "6.4: Import with as much room as is enough")
					mustTell(t, s.Check(), api.OK, "5.5: Check")
					if s.Left()+s.Pages()+2 != d.Blocks() || s.Tree.Len() != roomy.Tree.Len() {
						t.Fatalf("6.4: %d left, %d pages of %d blocks: something of the old pairs is there", s.Left(), s.Pages(), d.Blocks())
					}
					mustBe(t, mustOpen(t, d), whole(t, roomy), "6.4: Import with as much room as is enough")
				}
			}
		}
	}
}

// TestRoomStepByStep: with more and more room, from none on, a change is refused without a trace till it is made.
func TestRoomStepByStep(t *testing.T) {
	for _, count := range []int{1, 4, 9, 30} {
		for what, change := range map[string]func(*Store) api.Errno{
			"Apply of a pair":     func(s *Store) api.Errno { return s.Apply(5, []api.Change{laid(9, "new", "v")}) },
			"Apply of a position": func(s *Store) api.Errno { return s.Apply(6, nil) },
			"Apply of one gone":   func(s *Store) api.Errno { return s.Apply(6, []api.Change{gone(0, "k0000")}) },
			"Apply of several": func(s *Store) api.Errno {
				return s.Apply(7, []api.Change{gone(0, "k0000"), laid(0, "a", ""), laid(15, "z", ""), laid(0, "k0000", "again"), laid(12, "m", "")})
			},
			"Import of nothing": func(s *Store) api.Errno { return s.Import(nil, 2) },
			"Import of several": func(s *Store) api.Errno { return s.Import(filled(count+5), 2) },
		} {
			roomy, _ := packed(t, filled(count), 5, 300)
			mustTell(t, change(roomy), api.OK, what)
			left, full := 0, api.ErrFull
			for ; full == api.ErrFull; left++ {
				s, d := packed(t, filled(count), 5, left)
				was, all := allTold(s), whole(t, s)
				for range 2 {
					if full = change(s); full == api.OK {
						mustBe(t, s, whole(t, roomy), "6.3: "+what)
						break
					}
					mustTell(t, full, api.ErrFull, "6.3: "+what+" without room")
					mustHaveTold(t, s, was, "6.3: "+what+" without room")
					mustBe(t, s, all, "6.3: "+what+" without room")
					mustBe(t, mustOpen(t, d), all, "6.3: "+what+" without room, opened anew")
				}
				if full == api.ErrFull {
					mustApply(t, s, 5, gone(9, "not there"))
					mustBe(t, s, all, "6.3: a change of nothing needs no room")
				}
			}
			if left < 2 || left > 40 {
				t.Errorf("6.3: %s of %d pairs is made with %d pages", what, count, left-1)
			}
		}
	}
}

// TestLittleRoomForAnImport: over trees of many shapes, a pair that can't be taken away stays, and all others with it.
func TestLittleRoomForAnImport(t *testing.T) {
	for _, count := range []int{1, 4, 7, 15, 31, 50} {
		for order, pairs := range arranged(count) {
			pages, full, made := pagesOf(t, pairs, 5), 0, 0
			for left := range 8 {
				for _, l := range [][]api.Pair{nil, {pair(1, "k", "v")}} {
					s, _ := imported(t, pairs, 5, pages+left+2, left)
					was, all := allTold(s), whole(t, s)
					e := s.Import(l, 0)
					if e == api.OK {
						made++
						mustBe(t, s, spelled(l)+" at 0", fmt.Sprint("6.4: over ", count, " pairs ", order))
						continue
					}
					full++
					mustTell(t, e, api.ErrFull, "6.4: Import without room")
					mustHaveTold(t, s, was, "6.4: Import without room")
					mustBe(t, s, all, "6.4: Import without room")
				}
			}
			if full == 0 || made == 0 {
				t.Errorf("6.4: %d refused, %d made over %d pairs %s", full, made, count, order)
			}
		}
	}
}

// TestAFullDisk: a store is filled and emptied again and again, on one disk.
func TestAFullDisk(t *testing.T) {
	s, d := newStore(t, 40)
	most := 0
	for round := range 6 {
		count := 0
		for ; ; count++ {
			was, all := allTold(s), whole(t, s)
			e := s.Apply(count, []api.Change{laid(count%16, fmt.Sprint("k", count), fmt.Sprint(round))})
			if e == api.ErrFull {
				mustHaveTold(t, s, was, "6.3: a full disk")
				mustBe(t, s, all, "6.3: a full disk")
				break
			}
			mustTell(t, e, api.OK, "6.3: Apply")
		}
		if most = max(most, count); count < most || count < 38 {
			t.Fatalf("6.4: %d pairs, once there were %d", count, most)
		}
		if e := s.Import(nil, 0); e != api.OK {
			t.Fatalf("6.4: Import of nothing with %d left, %d deep: %d", s.Left(), s.Depth(), e)
		}
		mustHaveTold(t, s, told{number: s.Number(), left: 38}, "6.4: emptied")
		mustBe(t, mustOpen(t, d), " at 0", "6.4: emptied")
	}
}
