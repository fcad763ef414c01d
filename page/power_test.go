package page

import (
	"math/rand"
	"testing"

	"headland/api"
	"headland/disk"
)

const all = 1<<64 - 1

// mustBeDead says that a Store is dead, and tells what it told.
func mustBeDead(t *testing.T, s *Store, root, number, left int, why string) {
	t.Helper()
	if !s.Dead() {
		t.Fatalf("4.4: %s: not dead", why)
	}
	for _, id := range []int{-1, 0, 1, 2, 3, 99} {
		mustTell(t, s.Hold(id), api.ErrDown, "4.4: "+why+": Hold")
		mustTell(t, s.Hold(2, id), api.ErrDown, "4.4: "+why+": Hold")
		mustTell(t, s.Free(id), api.ErrDown, "4.4: "+why+": Free")
		mustTell(t, s.Commit(id), api.ErrDown, "4.4: "+why+": Commit")
		mustNotGet(t, s, id, api.ErrDown, "4.4: "+why)
	}
	mustTell(t, s.Hold(), api.ErrDown, "4.4: "+why+": Hold of none")
	for _, size := range []int{0, 1, 8186, 8187} {
		mustNotPut(t, s, filled(size, 1), api.ErrDown, "4.4: "+why)
	}
	mustHave(t, s, root, number, left, "4.4: "+why)
}

func TestDead(t *testing.T) {
	s, d := newStore(t, 6)
	mustPut(t, s, []byte("a"), 2)
	mustPut(t, s, []byte("b"), 3)
	mustTell(t, s.Commit(2), api.OK, "4.3: Commit")
	mustTell(t, s.Free(3), api.OK, "4.2: Free")
	mustPut(t, s, []byte("c"), 4)
	d.Cut(disk.Loss{Torn: -1})
	mustBeDead(t, s, 2, 1, 1, "without power")
	d.Restart()
	mustBeDead(t, s, 2, 1, 1, "with power again")
	if d.Open() != 0 {
		t.Error("4.4: a dead Store writes")
	}
	anew := mustOpen(t, d, 2, 1)
	mustHave(t, anew, 2, 1, 4, "4.4: opened anew")
	mustTell(t, anew.Hold(2), api.OK, "4.4: opened anew")
	mustPut(t, anew, []byte("d"), 3)
	mustTell(t, anew.Commit(3), api.OK, "4.4: opened anew")
	if anew.Dead() {
		t.Error("4.4: a Store that was opened anew is dead")
	}
	mustBeDead(t, s, 2, 1, 1, "another one opened anew")
	d.Cut(disk.Loss{Torn: -1})
	d.Restart()
	mustBeDead(t, s, 2, 1, 1, "dead for good")
	mustBeDead(t, anew, 3, 2, 2, "dead as well")
}

func TestDeadAtALaterLife(t *testing.T) {
	d := newDisk(t, 5)
	for life := range 3 {
		s := mustOpen(t, d, 0, 0)
		if s.Dead() {
			t.Fatalf("4.4: a Store opened behind %d losses is dead", life)
		}
		mustTell(t, s.Hold(2), api.OK, "4.2: Hold")
		d.Cut(disk.Loss{})
		d.Cut(disk.Loss{})
		mustBeDead(t, s, 0, 0, 2, "behind some losses")
		d.Restart()
	}
}

// TestARefusedPut: the power that goes at a Put's write leaves the page as it was.
func TestARefusedPut(t *testing.T) {
	s, d := newStore(t, 5)
	mustPut(t, s, []byte("a"), 2)
	d.Arm(disk.Loss{After: 1, Keep: all, Torn: -1})
	mustNotPut(t, s, []byte("b"), api.ErrDown, "4.2: what disk.Write refuses")
	mustBeDead(t, s, 0, 0, 2, "by a Put")
	d.Restart()
	s = mustOpen(t, d, 0, 0)
	mustGet(t, s, 2, []byte("a"), "3.3: a kept open write")
	mustNotGet(t, s, 3, api.ErrCorrupt, "3.3: a refused write")
}

// TestARefusedCommit: it is a Flush, a Write and a Flush, and a refusal of each ends it.
func TestARefusedCommit(t *testing.T) {
	for after := 1; after <= 4; after++ {
		s, d := newStore(t, 6)
		mustPut(t, s, []byte("a"), 2)
		mustTell(t, s.Commit(2), api.OK, "4.3: Commit")
		mustTell(t, s.Free(2), api.OK, "4.2: Free")
		mustPut(t, s, []byte("b"), 3)
		d.Arm(disk.Loss{After: after, Keep: all, Torn: -1})
		e := s.Commit(3)
		if after == 4 {
			mustTell(t, e, api.OK, "4.3: Commit is three calls of the disk")
			mustHave(t, s, 3, 2, 3, "4.3: Commit")
			continue
		}
		mustTell(t, e, api.ErrDown, "4.3: a Commit that the disk refused")
		mustBeDead(t, s, 2, 1, 2, "by a Commit")
		d.Restart()
		s, e = Open(d)
		mustTell(t, e, api.OK, "4.5: Open")
		if after == 3 {
			mustHave(t, s, 3, 2, 4, "4.5: the head was kept")
		} else {
			mustHave(t, s, 2, 1, 4, "4.5: the head was not written")
			mustBlock(t, d, 0, nil, "4.3: a refusal ends the Commit")
		}
		mustGet(t, s, 2, []byte("a"), "4.5: held at the last Commit")
		mustGet(t, s, 3, []byte("b"), "4.5: a kept open write")
	}
}

// TestThePagesAreKeptAheadOfTheHead: at no call of a Commit is the head open beside a page that it leads to.
func TestThePagesAreKeptAheadOfTheHead(t *testing.T) {
	for after := 1; after <= 3; after++ {
		for keep := range uint64(8) {
			s, d := newStore(t, 8)
			mustPut(t, s, []byte("a"), 2)
			mustPut(t, s, []byte("b"), 3)
			d.Arm(disk.Loss{After: after, Keep: keep, Torn: -1})
			mustTell(t, s.Commit(3), api.ErrDown, "4.3: Commit")
			d.Restart()
			s, e := Open(d)
			mustTell(t, e, api.OK, "4.5: Open")
			if s.Number() == 1 {
				mustGet(t, s, 2, []byte("a"), "4.5: held at the Commit that was under way")
				mustGet(t, s, 3, []byte("b"), "4.5: held at the Commit that was under way")
			}
			if want := after == 3 && keep&1 == 1; want != (s.Number() == 1) {
				t.Errorf("4.5: After %d, Keep %d: number %d", after, keep, s.Number())
			}
		}
	}
}

// TestATornHead tears a head's write at each byte, over bytes 0 and over an older head.
func TestATornHead(t *testing.T) {
	for _, first := range []int{0, 1, 2, 3, 253, 254, 255, 256, 257, 65533, 65534, 1<<24 - 2, 1<<32 - 6, 1<<32 + 1, 1<<40 + 1} {
		for cut := range 24 {
			d := diskOf(t, nil, nil)
			if first > 0 {
				older, last := laidHead(uint64(first-1), 4), laidHead(uint64(first), 3)
				if first == 1 {
					older = nil
				}
				l := [][]byte{older, last}
				if first%2 == 0 {
					l = [][]byte{last, older}
				}
				d = diskOf(t, l[0], l[1])
			}
			s, e := Open(d)
			mustTell(t, e, api.OK, "4.1: Open")
			root := s.Root()
			mustTell(t, s.Hold(2), api.OK, "4.2: Hold")
			d.Arm(disk.Loss{After: 3, Torn: 0, Cut: cut})
			mustTell(t, s.Commit(2), api.ErrDown, "4.3: Commit")
			d.Restart()
			if cut < 20 {
				mustOpen(t, d, root, first)
			} else {
				mustOpen(t, d, 2, first+1)
			}
		}
	}
}

// run is a row of Puts, Frees and Commits, held against what is to be found behind a loss.
type run struct {
	s       *Store
	texts   map[int]string // of the held pages, by their numbers
	old     commit         // the last Commit that told OK
	way     commit         // the one under way
	written map[int]bool   // since old
}

type commit struct {
	root, number int
	texts        map[int]string
}

func (r *run) put(text string) bool {
	id, e := r.s.Put([]byte(text))
	if e == api.OK {
		r.texts[id] = text
		r.written[id] = true
	}
	return e == api.OK
}

func (r *run) free(id int) {
	if r.s.Free(id) == api.OK {
		delete(r.texts, id)
	}
}

func (r *run) commit(root int) bool {
	r.way = commit{root, r.old.number + 1, map[int]string{}}
	for id, text := range r.texts {
		r.way.texts[id] = text
	}
	if r.s.Commit(root) != api.OK {
		return false
	}
	r.old, r.written = r.way, map[int]bool{}
	return true
}

// some does some calls, the same ones for the same seed, till the power goes.
func (r *run) some(chance *rand.Rand, calls int) {
	for i := range calls {
		if r.s.Dead() {
			return
		}
		ids := []int{}
		for id := 2; id < 12; id++ {
			if r.texts[id] != "" {
				ids = append(ids, id)
			}
		}
		switch n := chance.Intn(8); {
		case n < 4:
			r.put(string(filled(1+chance.Intn(50), byte(i))))
		case n < 6 && len(ids) > 0:
			r.free(ids[chance.Intn(len(ids))])
		case len(ids) > 0 && chance.Intn(5) > 0:
			r.commit(ids[chance.Intn(len(ids))])
		default:
			r.commit(0)
		}
	}
}

// mustFindOneOf says that what Open finds is the last Commit, or the one under way, with the pages that were held then.
func (r *run) mustFindOneOf(t *testing.T, d *disk.Disk, l disk.Loss) {
	t.Helper()
	s, e := Open(d)
	if e != api.OK {
		t.Fatalf("4.5: %v: Open: %d", l, e)
	}
	found := r.old
	if s.Number() != found.number {
		found = r.way
	}
	if s.Number() != found.number || s.Root() != found.root {
		t.Fatalf("4.5: %v: number %d, root %d; neither %d, %d nor %d, %d", l, s.Number(), s.Root(), r.old.number, r.old.root, r.way.number, r.way.root)
	}
	for id, text := range found.texts {
		if b, e := s.Get(id); e != api.OK || string(b) != text {
			t.Fatalf("4.5: %v: page %d of the Commit %d: %d bytes, %d", l, id, found.number, len(b), e)
		}
	}
	for id := range r.written {
		if found.number == r.old.number && found.texts[id] != "" {
			t.Fatalf("4.5: %v: page %d was written over, and was held at the last Commit", l, id)
		}
	}
}

func someLoss(r *rand.Rand, after int) disk.Loss {
	keeps := []uint64{0, all, 1, 2, r.Uint64()}
	cuts := []int{-1, 0, 1, 4, 5, 11, 12, 16, 19, 20, 21, 8191, 8192, r.Intn(60)}
	return disk.Loss{After: after, Keep: keeps[r.Intn(len(keeps))], Torn: r.Intn(6) - 1, Cut: cuts[r.Intn(len(cuts))]}
}

// TestWhateverPowerIsLost lets the power go at each write and flush of a run, its open writes kept, lost and torn.
func TestWhateverPowerIsLost(t *testing.T) {
	for seed := range int64(60) {
		for after := 1; after <= 45; after++ {
			d := newDisk(t, 12)
			r := &run{s: mustOpen(t, d, 0, 0), texts: map[int]string{}, written: map[int]bool{}}
			r.old.texts = map[int]string{}
			l := someLoss(rand.New(rand.NewSource(seed*1000+int64(after))), after)
			d.Arm(l)
			r.some(rand.New(rand.NewSource(seed)), 40)
			d.Cut(l)
			for range 2 {
				d.Restart()
				r.mustFindOneOf(t, d, l)
				d.Cut(l)
			}
		}
	}
}

// TestLossBehindLoss goes on with what was found, many times.
func TestLossBehindLoss(t *testing.T) {
	for seed := range int64(30) {
		chance := rand.New(rand.NewSource(seed))
		d := newDisk(t, 12)
		held := map[int]string{}
		for range 25 {
			s, e := Open(d)
			mustTell(t, e, api.OK, "4.5: Open")
			r := &run{s: s, texts: map[int]string{}, written: map[int]bool{}}
			r.old = commit{s.Root(), s.Number(), held}
			for id, text := range held {
				mustTell(t, s.Hold(id), api.OK, "4.2: Hold")
				r.texts[id] = text
			}
			l := someLoss(chance, 1+chance.Intn(12))
			d.Arm(l)
			r.some(chance, 20)
			d.Cut(l)
			d.Restart()
			r.mustFindOneOf(t, d, l)
			held = r.old.texts
			if s, _ = Open(d); s.Number() != r.old.number {
				held = r.way.texts
			}
		}
	}
}
