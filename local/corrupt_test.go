package local

import (
	"fmt"
	"strings"
	"testing"

	"headland/api"
	"headland/disk"
	"headland/tree"
)

func mustNotOpen(t *testing.T, d *disk.Disk, want api.Errno, why string) {
	t.Helper()
	if s, e := Open(d); s != nil || e != want {
		t.Fatalf("6.1: Open of %s: %v, %d; not %d", why, s, e, want)
	}
}

func TestOpenIsRefused(t *testing.T) {
	mustNotOpen(t, nil, api.ErrArg, "no disk")
	for blocks := 1; blocks <= 2; blocks++ {
		mustNotOpen(t, newDisk(t, blocks), api.ErrArg, "a small disk")
	}
	s, d := newStore(t, 60)
	mustImport(t, s, 5, filled(20)...)
	all := whole(t, s)
	d.Cut(disk.Loss{Torn: -1})
	mustNotOpen(t, d, api.ErrDown, "a disk without power")
	d.Restart()
	for id := 2; id < 60; id++ {
		d.Flip(id, 77)
		if _, e := tree.Open(d); e != api.OK {
			mustNotOpen(t, d, e, "a page that does not read")
		} else {
			mustBe(t, mustOpen(t, d), all, "6.1: a page that is not the tree's")
		}
		d.Flip(id, 77)
	}
	mustBe(t, mustOpen(t, d), all, "6.1: with power again")
	d.Flip(0, 3)
	d.Flip(1, 3)
	mustNotOpen(t, d, api.ErrCorrupt, "a disk without a head")
}

func mustPut(t *testing.T, d *disk.Disk, key, value string) {
	t.Helper()
	x, e := tree.Open(d)
	mustTell(t, e, api.OK, "5.1: Open")
	mustTell(t, x.Put([]byte(key), []byte(value)), api.OK, "5.2: Put")
	mustTell(t, x.Commit(), api.OK, "5.3: Commit")
}

func TestPairsThatNoStoreLaidDown(t *testing.T) {
	for i, p := range []struct{ key, value string }{
		{"\x00", "v"}, {"\x01", ""}, {"\x0f", "v"},
		{"\x10\x00", "\x05"}, {"\x10\x10", "\x05"}, {"\x10k", "v"}, {"\x11", "\x05"}, {"\x11k", "v"}, {"\xff", "\x05"}, {"\xffk", "v"}, {"k", "v"}, {"key", "v"},
		{"\x00" + strings.Repeat("k", 61), "v"}, {"\x01" + strings.Repeat("k", 62), "v"}, {"\x0f" + strings.Repeat("k", 63), "v"},
		{"\x10", ""}, {"\x10", "\x00"}, {"\x10", "\x80"}, {"\x10", "\x80\x01"}, {"\x10", "\x81"}, {"\x10", "\x05\x00"}, {"\x10", "\x05\x05"},
		{"\x10", "\x81\x00\x00"}, {"\x10", strings.Repeat("\xff", 9)}, {"\x10", strings.Repeat("\xff", 9) + "\x00"}, {"\x10", strings.Repeat("\xff", 8) + "\x7f\x00"},
	} {
		for _, count := range []int{0, 3, 30} {
			s, d := newStore(t, 100)
			mustImport(t, s, 7, filled(count)...)
			mustPut(t, d, p.key, p.value)
			mustNotOpen(t, d, api.ErrCorrupt, fmt.Sprint("a tree with pair ", i, " that no Store laid down"))
		}
	}
}

func TestPairsThatAStoreLaysDown(t *testing.T) {
	for _, p := range []struct{ key, value, want string }{
		{"\x00k", "v", "0 k=v at 0"},
		{"\x0f\x00", "", "15 \x00= at 0"},
		{"\x01" + strings.Repeat("k", 60), "v", "1 " + strings.Repeat("k", 60) + "=v at 0"},
		{"\x10", "\x05", " at 5"},
		{"\x10", "\x81\x00", " at 128"},
		{"\x10", strings.Repeat("\xff", 8) + "\x7f", " at 9223372036854775807"},
	} {
		d := newDisk(t, 30)
		mustPut(t, d, p.key, p.value)
		mustBe(t, mustOpen(t, d), p.want, "6.1: what a Store lays down")
	}
}

// TestOneForm: a store has one form, however it came to be what it is.
func TestOneForm(t *testing.T) {
	a, d := newStore(t, 60)
	mustApply(t, a, 0, laid(2, "b", "2"))
	mustApply(t, a, 0, laid(1, "a", "1"))
	b, f := newStore(t, 60)
	mustApply(t, b, 9, laid(3, "c", "3"))
	mustImport(t, b, 0, pair(1, "a", "1"), pair(2, "b", "2"))
	x, _ := tree.Open(d)
	y, _ := tree.Open(f)
	of, _ := x.Range(nil, nil, 99)
	other, _ := y.Range(nil, nil, 99)
	if spelled(of) != spelled(other) || len(of) != 2 {
		t.Errorf("rule 7: %s, and %s", spelled(of), spelled(other))
	}
}

// TestAPageThatDoesNotRead: what is on the way is told, and nothing is changed.
func TestAPageThatDoesNotRead(t *testing.T) {
	s, d := newStore(t, 100)
	mustImport(t, s, 5, filled(40)...)
	all, was := whole(t, s), allTold(s)
	met := map[string]int{}
	for id := 2; id < 100; id++ {
		d.Flip(id, 99)
		for _, p := range filled(40) {
			_, is, e := s.Get(p.Space, p.Key)
			if e != api.ErrCorrupt && (e != api.OK || !is) || e == api.ErrCorrupt && is {
				t.Fatalf("6.2: Get: %v, %d", is, e)
			}
			if e == api.OK {
				continue
			}
			met["Get"]++
			mustNotRange(t, s, p.Space, p.Key, nil, 1, api.ErrCorrupt, "6.2: a page on the way does not read")
			mustTell(t, s.Apply(9, []api.Change{laid(p.Space, string(p.Key), "new")}), api.ErrCorrupt, "6.3: a page on the way does not read")
			mustTell(t, s.Apply(9, []api.Change{{Pair: p, Gone: true}}), api.ErrCorrupt, "6.3: a page on the way does not read")
		}
		if l, pos, e := s.Export(); e != api.OK {
			met["Export"]++
			if len(l) != 0 || pos != 0 || e != api.ErrCorrupt {
				t.Fatalf("6.4: Export: %d pairs, %d, %d", len(l), pos, e)
			}
			mustTell(t, s.Import(nil, 3), api.ErrCorrupt, "6.4: a page on the way does not read")
			mustTell(t, s.Import([]api.Pair{pair(1, "k", "v")}, 9), api.ErrCorrupt, "6.4: a page on the way does not read")
		}
		mustHaveTold(t, s, was, "rule 4: behind ErrCorrupt")
		mustTell(t, s.Apply(4, nil), api.ErrArg, "6.2: ErrArg ahead of ErrCorrupt")
		mustNotGet(t, s, 1, make([]byte, 61), api.ErrLong, "6.2: ErrLong ahead of ErrCorrupt")
		d.Flip(id, 99)
		mustBe(t, s, all, "rule 4: behind ErrCorrupt, turned back")
	}
	if met["Get"] == 0 || met["Export"] != s.Pages() {
		t.Errorf("6.2: %v pages met, of %d", met, s.Pages())
	}
	mustBe(t, mustOpen(t, d), all, "rule 4: behind ErrCorrupt, opened anew")
}

// TestAChangeAheadOfAPageThatDoesNotRead: what was changed on the way is as it was, and so is what there is room for.
func TestAChangeAheadOfAPageThatDoesNotRead(t *testing.T) {
	s, d := newStore(t, 100)
	mustImport(t, s, 5, filled(40)...)
	all, was, met := whole(t, s), allTold(s), 0
	for id := 2; id < 100; id++ {
		d.Flip(id, 99)
		_, _, first := s.Get(0, []byte("k0000"))
		_, _, last := s.Get(12, []byte("k0039"))
		if first == api.OK && last == api.ErrCorrupt {
			met++
			mustTell(t, s.Apply(9, []api.Change{laid(0, "k0000", "new"), gone(12, "k0039")}), api.ErrCorrupt, "6.3: a page on the way does not read")
			mustTell(t, s.Apply(9, []api.Change{gone(0, "k0000"), laid(12, "k0039", "new")}), api.ErrCorrupt, "6.3: a page on the way does not read")
			mustGet(t, s, 0, "k0000", "v0", "6.3: behind ErrCorrupt")
			mustHaveTold(t, s, was, "6.3: behind ErrCorrupt")
		}
		d.Flip(id, 99)
		mustBe(t, s, all, "6.3: behind ErrCorrupt, turned back")
	}
	if met == 0 {
		t.Error("no page was on the way to the last pair alone")
	}
}

// TestAForeignPairBesideAStore: what was laid down since Open by the tree's own means is met where it is.
func TestAForeignPairBesideAStore(t *testing.T) {
	s, _ := newStore(t, 60)
	mustApply(t, s, 5, laid(1, "k", "v"), laid(3, "l", "w"))
	mustTell(t, s.Put([]byte{2}, nil), api.OK, "5.2: Put")
	mustNotRange(t, s, 2, nil, nil, 9, api.ErrCorrupt, "6.2: a pair that no Store laid down")
	mustRange(t, s, 1, "", "", 9, "1 k=v", "6.2: a space that has none of them")
	mustRange(t, s, 3, "", "", 9, "3 l=w", "6.2: a space that has none of them")
	if l, pos, e := s.Export(); len(l) != 0 || pos != 0 || e != api.ErrCorrupt {
		t.Errorf("6.4: Export: %d pairs, %d, %d", len(l), pos, e)
	}
	mustTell(t, s.Put([]byte{16}, []byte{9}), api.OK, "5.2: Put")
	mustRange(t, s, 15, "", "", 9, "", "6.2: a space's end")
}

// TestTheLastNumber: no Commit is behind it, and what a store has is told nevertheless.
func TestTheLastNumber(t *testing.T) {
	s, d := newStore(t, 30)
	mustApply(t, s, 5, laid(1, "k", "v"), laid(2, "l", "w"))
	mustApply(t, s, 5, laid(2, "m", "x"))
	head, e := d.Read(0)
	mustTell(t, e, api.OK, "3.2: Read")
	copy(head[4:], []byte{0x40, 0, 0, 0, 0, 0, 0, 0})
	copy(head[16:], []byte{0, 0, 0, 0})
	mustTell(t, d.Write(0, head), api.OK, "3.2: Write")
	s = mustOpen(t, d)
	if s.Number() != 1<<62 {
		t.Fatalf("4.1: Number %d", s.Number())
	}
	was, all := allTold(s), whole(t, s)
	for range 2 {
		mustTell(t, s.Apply(6, nil), api.ErrFull, "6.3: what Commit refuses")
		mustTell(t, s.Apply(5, []api.Change{laid(1, "k", "other"), gone(2, "l")}), api.ErrFull, "6.3: what Commit refuses")
		mustTell(t, s.Import(nil, 1), api.ErrFull, "6.4: what Commit refuses")
		mustHaveTold(t, s, was, "6.3: behind ErrFull")
		mustBe(t, s, all, "6.3: behind ErrFull")
	}
	d.Cut(disk.Loss{Torn: -1})
	mustTell(t, s.Apply(6, nil), api.ErrDown, "6.2: dead")
}
