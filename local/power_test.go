package local

import (
	"fmt"
	"math/rand"
	"testing"

	"headland/api"
	"headland/disk"
)

// mustBeDead says that a store is dead, and tells what it told.
func mustBeDead(t *testing.T, s *Store, was told, why string) {
	t.Helper()
	was.dead = true
	mustHaveTold(t, s, was, "6.2: "+why)
	for _, space := range []int{-1, 0, 1, 16} {
		for _, key := range [][]byte{nil, []byte("k"), make([]byte, 61)} {
			mustNotGet(t, s, space, key, api.ErrDown, "6.2: "+why)
			for _, most := range []int{-1, 0, 9} {
				mustNotRange(t, s, space, key, key, most, api.ErrDown, "6.2: "+why)
			}
			for _, pos := range []int{-1, 0, s.Pos(), s.Pos() + 1} {
				p := api.Pair{Space: space, Key: key}
				mustTell(t, s.Apply(pos, []api.Change{{Pair: p}}), api.ErrDown, "6.2: "+why+": Apply")
				mustTell(t, s.Apply(pos, []api.Change{{Pair: p, Gone: true}}), api.ErrDown, "6.2: "+why+": Apply")
				mustTell(t, s.Apply(pos, nil), api.ErrDown, "6.2: "+why+": Apply")
				mustTell(t, s.Import([]api.Pair{p}, pos), api.ErrDown, "6.2: "+why+": Import")
				mustTell(t, s.Import(nil, pos), api.ErrDown, "6.2: "+why+": Import")
			}
		}
	}
	if l, pos, e := s.Export(); len(l) != 0 || pos != 0 || e != api.ErrDown {
		t.Fatalf("6.2: %s: Export: %d pairs, %d, %d", why, len(l), pos, e)
	}
	mustHaveTold(t, s, was, "6.2: "+why)
}

func TestDead(t *testing.T) {
	for _, count := range []int{0, 3, 30} {
		s, d := newStore(t, 100)
		mustImport(t, s, 4, filled(count)...)
		was, all := allTold(s), whole(t, s)
		d.Cut(disk.Loss{Keep: keepAll, Torn: -1})
		mustBeDead(t, s, was, "without power")
		d.Restart()
		mustBeDead(t, s, was, "with power again")
		anew := mustOpen(t, d)
		mustBe(t, anew, all, "6.5: opened anew")
		mustApply(t, anew, 9, laid(1, "k", "v"))
		mustBeDead(t, s, was, "another one opened anew")
		mustGet(t, anew, 1, "k", "v", "6.5: opened anew")
	}
}

// losses are ways to lose power at a write or flush: open writes kept, lost and torn.
func losses(after int) []disk.Loss {
	l := []disk.Loss{{Torn: -1}, {Keep: keepAll, Torn: -1}, {Keep: 0x5555555555555555, Torn: -1}, {Keep: ^uint64(0x5555555555555555), Torn: -1}}
	for torn := range 2 {
		for _, cut := range []int{0, 3, 11, 17, 20, 8191} {
			l = append(l, disk.Loss{Keep: keepAll * uint64(cut%2), Torn: torn, Cut: cut})
		}
	}
	for i := range l {
		l[i].After = after
	}
	return l
}

// mustFind is the store of a disk whose power went: as it was (kept), or as it was to be (under).
func mustFind(t *testing.T, d *disk.Disk, kept, under, why string) *Store {
	t.Helper()
	d.Restart()
	s := mustOpen(t, d)
	if got := whole(t, s); got != kept && got != under {
		t.Fatalf("6.5: %s: %s; not %s, nor %s", why, got, kept, under)
	}
	mustBe(t, s, whole(t, s), "6.5: "+why)
	mustTell(t, s.Check(), api.OK, "5.6: Check")
	if s.Left()+s.Pages()+2 != d.Blocks() {
		t.Fatalf("6.5: %s: %d left, %d pages of %d blocks", why, s.Left(), s.Pages(), d.Blocks())
	}
	return s
}

// TestPowerLostAtEachWriteAndFlush of an Apply and of an Import, with much room and with little.
func TestPowerLostAtEachWriteAndFlush(t *testing.T) {
	pages := pagesOf(t, filled(10), 5)
	for what, change := range map[string]func(*Store) api.Errno{
		"Apply of a pair":     func(s *Store) api.Errno { return s.Apply(6, []api.Change{laid(9, "new", "v")}) },
		"Apply of a position": func(s *Store) api.Errno { return s.Apply(6, nil) },
		"Apply of nothing":    func(s *Store) api.Errno { return s.Apply(5, nil) },
		"Apply of several": func(s *Store) api.Errno {
			return s.Apply(7, []api.Change{gone(0, "k0000"), laid(0, "a", ""), laid(0, "k0000", "again"), gone(3, "k0001")})
		},
		"Import of nothing": func(s *Store) api.Errno { return s.Import(nil, 2) },
		"Import of several": func(s *Store) api.Errno { return s.Import([]api.Pair{pair(1, "k", "v"), pair(0, "k0000", "w")}, 2) },
	} {
		for _, left := range []int{12, 100} {
			roomy, _ := packed(t, filled(10), 5, 100)
			kept := whole(t, roomy)
			mustTell(t, change(roomy), api.OK, what)
			under := whole(t, roomy)
			cut := true
			for after := 1; cut; after++ {
				for i, l := range losses(after) {
					s, d := imported(t, filled(10), 5, pages+left+2, left)
					why := fmt.Sprint(what, ", ", left, " left, ", l)
					was := allTold(s)
					d.Arm(l)
					e := change(s)
					if cut = s.Dead(); !cut {
						mustTell(t, e, api.OK, "6.3: "+why)
						mustBe(t, s, under, "6.3: "+why)
						d.Cut(l)
						mustFind(t, d, under, under, why)
						continue
					}
					mustTell(t, e, api.ErrDown, "6.3: "+why)
					was.keys, was.pages, was.depth, was.left = s.Tree.Len(), s.Pages(), s.Depth(), s.Left()
					if i < 2 {
						mustBeDead(t, s, was, why)
					}
					mustFind(t, d, kept, under, why)
					d.Cut(l)
					mustFind(t, d, kept, under, why+", and once more")
				}
			}
		}
	}
}

func someLoss(r *rand.Rand, after int) disk.Loss {
	l := losses(after)
	one := l[r.Intn(len(l))]
	if r.Intn(3) == 0 {
		one.Keep = r.Uint64()
	}
	return one
}

// TestLossBehindLoss: a store goes on from what was found, many times.
func TestLossBehindLoss(t *testing.T) {
	for seed := range int64(25) {
		r := rand.New(rand.NewSource(seed))
		s, d := newStore(t, 20+int(seed)*3)
		for range 25 {
			l := someLoss(r, 1+r.Intn(60))
			d.Arm(l)
			kept := whole(t, s)
			under := kept
			for !s.Dead() {
				var e api.Errno
				kept = under
				e, under = someStep(t, r, s, kept)
				if e != api.OK && e != api.ErrDown {
					under = kept
				}
			}
			s = mustFind(t, d, kept, under, fmt.Sprint("seed ", seed, ", ", l))
		}
	}
}

// someStep is a change of a store, what it told, and what another store becomes by it.
func someStep(t *testing.T, r *rand.Rand, s *Store, was string) (api.Errno, string) {
	t.Helper()
	l, pos, e := s.Export()
	mustTell(t, e, api.OK, "6.4: Export")
	if got := fmt.Sprintf("%s at %d", spelled(l), pos); got != was {
		t.Fatalf("6.3: %s; not %s", got, was)
	}
	other, _ := newStore(t, 600)
	mustImport(t, other, pos, l...)
	step := func(s *Store) api.Errno { return s.Apply(pos, nil) }
	switch r.Intn(8) {
	case 0:
		pairs, to := filled(r.Intn(20)), r.Intn(100)
		step = func(s *Store) api.Errno { return s.Import(pairs, to) }
	case 1:
		pairs := append(l[len(l)/2:], pair(1, "k", "v"))
		step = func(s *Store) api.Errno { return s.Import(pairs, pos) }
	default:
		changes, to := someChanges(r, r.Intn(5), 25), pos+r.Intn(2)
		step = func(s *Store) api.Errno { return s.Apply(to, changes) }
	}
	mustTell(t, step(other), api.OK, "6.3: a change with room")
	return step(s), whole(t, other)
}
