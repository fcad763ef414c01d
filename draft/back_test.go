package draft

import (
	"fmt"
	"math"
	"slices"
	"strings"
	"testing"

	"headland/api"
)

func mustBack(t *testing.T, d *Draft, mark int, want, why string) {
	t.Helper()
	mustTell(t, d.Back(mark), api.OK, "13.2: Back")
	if d.Mark() != mark {
		t.Fatalf("13.2: %s: Mark %d behind Back of %d", why, d.Mark(), mark)
	}
	mustBe(t, d, want, "13.2: "+why)
}

func TestMark(t *testing.T) {
	d, _ := newDraft(t, pair(1, "a", "s"))
	for i, c := range []api.Change{laid(1, "b", "1"), laid(1, "b", "1"), gone(1, "b"), gone(1, "b"), gone(1, "a"), gone(9, "none"), laid(1, "a", "s")} {
		if d.Mark() != i {
			t.Fatalf("13.2: Mark %d behind %d changes", d.Mark(), i)
		}
		mustMake(t, d, c)
	}
	d.Put(16, []byte("k"), nil)
	d.Get(1, []byte("a"))
	d.Range(1, nil, nil, 9)
	d.Changes()
	if d.Mark() != 7 || d.Mark() != 7 {
		t.Fatalf("13.2: Mark %d, not 7", d.Mark())
	}
}

func TestBack(t *testing.T) {
	d, _ := newDraft(t, pair(1, "a", "s"))
	mustBack(t, d, 0, "1 a=s", "of no change")
	mustTell(t, d.Back(1), api.ErrArg, "13.2: Back of more than none")
	mustTell(t, d.Back(-1), api.ErrArg, "13.2: Back of -1")
	mustMake(t, d, laid(1, "b", "1"), gone(1, "a"), laid(1, "b", "2"), laid(2, "c", "3"), gone(1, "b"))
	for _, mark := range []int{-1, -2, 6, 7, math.MinInt, math.MaxInt} {
		mustTell(t, d.Back(mark), api.ErrArg, "13.2: Back of a mark that there is not")
		if d.Mark() != 5 {
			t.Fatalf("rule 4: Mark %d behind a Back that was refused", d.Mark())
		}
	}
	mustBack(t, d, 5, "2 c=3", "of all changes")
	mustBack(t, d, 5, "2 c=3", "twice in a row")
	mustBack(t, d, 4, "1 b=2, 2 c=3", "of four")
	mustTell(t, d.Back(5), api.ErrArg, "13.2: Back of a mark that is gone")
	mustBack(t, d, 2, "1 b=1", "of two")
	mustBack(t, d, 2, "1 b=1", "twice in a row")
	mustChange(t, d, "no 1 a=, 1 b=1", "13.2: behind Back")
	mustMake(t, d, laid(1, "a", "4"), laid(3, "d", "5"))
	mustBe(t, d, "1 a=4, 1 b=1, 3 d=5", "13.2: changes behind a Back")
	mustChange(t, d, "1 a=4, 1 b=1, 3 d=5", "13.2: changes behind a Back")
	mustBack(t, d, 3, "1 a=4, 1 b=1", "of changes behind a Back")
	mustBack(t, d, 1, "1 a=s, 1 b=1", "of one")
	mustBack(t, d, 0, "1 a=s", "of none")
	mustBack(t, d, 0, "1 a=s", "twice in a row")
	mustTell(t, d.Back(1), api.ErrArg, "13.2: Back of a mark that is gone")
	mustChange(t, d, "", "13.2: Back of 0")
	mustMake(t, d, gone(1, "a"))
	mustBe(t, d, "", "13.2: a change behind Back of 0")
}

// TestBackOfAMark: from each mark back to each earlier one, also by way of a third, what was told then is told again.
func TestBackOfAMark(t *testing.T) {
	d, s := newDraft(t, pair(1, "a", "s"), pair(1, "b", "s"), pair(2, "a", "s"))
	l := []api.Change{laid(1, "a", "1"), gone(1, "b"), laid(1, "c", "2"), gone(1, "a"), gone(1, "a"), laid(1, "b", "3"), laid(2, "b", "4"), gone(2, "a"), gone(1, "c"), laid(1, "a", "")}
	var told, changes []string
	for i := range len(l) + 1 {
		told, changes = append(told, whole(t, d)), append(changes, spelledChanges(d.Changes()))
		if i < len(l) {
			mustMake(t, d, l[i])
		}
	}
	mustBack(t, d, 0, told[0], "of none")
	for from := range told {
		for to := range from + 1 {
			for by := to; by <= from; by++ {
				mustMake(t, d, l[d.Mark():from]...)
				mustBack(t, d, by, told[by], fmt.Sprint("from ", from, " to ", by))
				mustChange(t, d, changes[by], "13.2: Back")
				mustBack(t, d, to, told[to], fmt.Sprint("from ", by, " to ", to))
				mustChange(t, d, changes[to], "13.2: Back")
			}
		}
	}
	mustBe(t, s, told[0], "13.1: nothing is turned in the store")
}

func TestChanges(t *testing.T) {
	for _, c := range []struct {
		l    []api.Change
		want string
	}{
		{nil, ""},
		{[]api.Change{laid(1, "k", "v")}, "1 k=v"},
		{[]api.Change{gone(1, "k")}, "no 1 k="},
		{[]api.Change{laid(1, "k", "1"), laid(1, "k", "2"), laid(1, "k", "3")}, "1 k=3"},
		{[]api.Change{laid(1, "k", "1"), gone(1, "k")}, "no 1 k="},
		{[]api.Change{gone(1, "k"), laid(1, "k", "1")}, "1 k=1"},
		{[]api.Change{gone(1, "k"), gone(1, "k"), laid(1, "k", "1"), gone(1, "k"), laid(1, "k", "")}, "1 k="},
		{[]api.Change{laid(1, "b", "1"), laid(1, "a", "2"), laid(1, "b", "3"), laid(1, "a", "4"), laid(1, "b", "5")}, "1 a=4, 1 b=5"},
		{[]api.Change{laid(15, "a", "1"), laid(0, "z", "2"), laid(10, "c", "3"), laid(2, "c", "4"), laid(9, "c", "5"), laid(1, "c", "6")}, "0 z=2, 1 c=6, 2 c=4, 9 c=5, 10 c=3, 15 a=1"},
		{[]api.Change{laid(2, "a", "1"), laid(1, "a", "2"), gone(2, "a"), laid(0, "a", "3"), gone(0, "a"), laid(1, "a", "4")}, "no 0 a=, 1 a=4, no 2 a="},
		{[]api.Change{laid(1, "\xff", "1"), gone(1, "ab"), laid(1, "b", "2"), laid(1, "a", "3"), gone(1, "a\x00"), laid(1, "\x00", "4"), laid(1, "aa", "5")}, "1 \x00=4, 1 a=3, no 1 a\x00=, 1 aa=5, no 1 ab=, 1 b=2, 1 \xff=1"},
		{[]api.Change{laid(1, "s", "of the store"), gone(1, "none"), gone(1, "s2")}, "no 1 none=, 1 s=of the store, no 1 s2="},
	} {
		d, _ := newDraft(t, pair(1, "s", "of the store"), pair(1, "s2", "s"))
		mustMake(t, d, c.l...)
		mustChange(t, d, c.want, "13.2")
		mustChange(t, d, c.want, "13.2: twice")
		if d.Mark() != len(c.l) {
			t.Errorf("13.2: Changes turns Mark to %d", d.Mark())
		}
	}
}

// TestManyChanges: many keys in all spaces, changed in a mixed row.
func TestManyChanges(t *testing.T) {
	d, s := newDraft(t)
	var want []string
	for i := range 640 {
		n := i * 7919 % 640
		key := fmt.Sprintf("k%03d", n/16)
		mustMake(t, d, laid(n%16, key, "first"), gone(n%16, key))
		if n%3 > 0 {
			mustMake(t, d, laid(n%16, key, fmt.Sprint(n)))
		}
	}
	for space := range 16 {
		for at := range 40 {
			if n := at*16 + space; n%3 > 0 {
				want = append(want, fmt.Sprintf("%d k%03d=%d", space, at, n))
			} else {
				want = append(want, fmt.Sprintf("no %d k%03d=", space, at))
			}
		}
	}
	mustChange(t, d, strings.Join(want, ", "), "13.2: many changes")
	told := whole(t, d)
	mustTell(t, s.Apply(4, d.Changes()), api.OK, "13.3: Apply")
	mustBe(t, s, told, "13.3: many changes")
	laidAlone := slices.DeleteFunc(want, func(s string) bool { return strings.HasPrefix(s, "no") })
	mustBe(t, s, strings.Join(laidAlone, ", "), "13.3: many changes")
}

// TestAppliedAsTheyCame: the last change of each key does what all of them, one behind the other, do.
func TestAppliedAsTheyCame(t *testing.T) {
	had := []api.Pair{pair(1, "a", "s"), pair(1, "b", "s"), pair(15, "b", "s"), pair(0, "a", "s")}
	l := []api.Change{gone(1, "a"), laid(1, "b", "1"), laid(2, "a", "2"), laid(1, "a", "3"), gone(1, "a"), gone(15, "b"), laid(0, "a", "4"), gone(2, "a"), laid(2, "a", "5"), gone(7, "none")}
	for count := range len(l) + 1 {
		d, s := newDraft(t, had...)
		mustMake(t, d, l[:count]...)
		told := whole(t, d)
		mustTell(t, s.Apply(9, d.Changes()), api.OK, "13.3: Apply of Changes")
		mustBe(t, s, told, "13.3: Apply of Changes")
		mustBe(t, d, told, "13.3: the draft, behind the Apply of its Changes")
		other, _ := newStore(t, had...)
		mustTell(t, other.Apply(9, l[:count]), api.OK, "6.3: Apply")
		mustBe(t, other, told, "13.1: as if the changes were applied")
	}
}
