package draft

import (
	"bytes"
	"fmt"
	"strings"
	"testing"

	"headland/api"
	"headland/disk"
	"headland/local"
)

// asked is every call of a draft, with inputs that are taken and that are refused.
func asked(d *Draft) map[string]func() {
	key, long := []byte("b"), make([]byte, 61)
	return map[string]func(){
		"Get":             func() { d.Get(1, key) },
		"Get of nothing":  func() { d.Get(1, []byte("none")) },
		"Get, refused":    func() { d.Get(16, nil) },
		"Range":           func() { d.Range(1, nil, nil, 99) },
		"Range, refused":  func() { d.Range(1, long, nil, 1) },
		"Put":             func() { d.Put(1, key, []byte("new")) },
		"Put, refused":    func() { d.Put(1, long, nil) },
		"Delete":          func() { d.Delete(1, key) },
		"Delete, refused": func() { d.Delete(1, nil) },
		"Mark":            func() { d.Mark() },
		"Changes":         func() { d.Changes() },
		"Back":            func() { d.Back(d.Mark() / 2) },
		"Back, refused":   func() { d.Back(-1) },
		"New":             func() { New(d.store) },
	}
}

// kept is all that a disk and its store have and tell.
func kept(t *testing.T, s *local.Store, x *disk.Disk) string {
	t.Helper()
	var blocks bytes.Buffer
	for at := range x.Blocks() {
		b, e := x.Read(at)
		mustTell(t, e, api.OK, "3.2: Read")
		blocks.Write(b)
	}
	l, pos, e := s.Export()
	mustTell(t, e, api.OK, "6.4: Export")
	told := fmt.Sprint(spelled(l), pos, s.Pos(), s.Number(), s.Left(), s.Pages(), s.Depth(), s.Tree.Len(), s.Dead(), x.Open())
	for space := range api.MaxSpaces {
		told += fmt.Sprint(" ", s.Len(space))
	}
	return told + blocks.String()
}

func TestNothingIsTurnedInTheStore(t *testing.T) {
	s, x := newStore(t, pair(1, "a", "s"), pair(1, "b", "s"), pair(1, "c", "s"), pair(2, "b", "s"))
	was := kept(t, s, x)
	d := mustDraft(t, s)
	mustMake(t, d, laid(1, "b", "v"), laid(1, "e", "v"), gone(1, "c"), laid(3, "b", strings.Repeat("v", 1800)))
	for range 2 {
		for what, call := range asked(d) {
			call()
			if kept(t, s, x) != was {
				t.Fatalf("13.1: %s turns something in the store", what)
			}
		}
	}
	// No call writes: the power that would go at the first write does not go.
	x.Arm(disk.Loss{After: 1, Torn: -1})
	for what, call := range asked(d) {
		call()
		if s.Dead() {
			t.Fatalf("13.1: %s writes", what)
		}
	}
}

// TestADeadStore: what reads the store is refused, what does not goes on.
func TestADeadStore(t *testing.T) {
	s, x := newStore(t, pair(1, "a", "s"))
	d := mustDraft(t, s)
	mustMake(t, d, laid(1, "b", "v"), gone(1, "a"))
	mustRefuse := func(why string) {
		t.Helper()
		long := strings.Repeat("k", 61)
		for _, key := range []string{"a", "b", "none", "", long} {
			for _, space := range []int{1, 0, -1, 16} {
				mustNotGet(t, d, space, key, api.ErrDown, why)
				mustNotRange(t, d, space, key, "", 9, api.ErrDown, why)
				mustNotRange(t, d, space, "", key, 0, api.ErrDown, why)
				mustNotRange(t, d, space, key, key, -1, api.ErrDown, why)
			}
		}
		mustTell(t, d.Put(16, []byte("k"), nil), api.ErrArg, "13.1: Put over a dead store")
		mustTell(t, d.Put(1, []byte(long), nil), api.ErrLong, "13.1: Put over a dead store")
		mustTell(t, d.Delete(1, nil), api.ErrArg, "13.1: Delete over a dead store")
		mustTell(t, d.Back(d.Mark()+1), api.ErrArg, "13.2: Back over a dead store")
		mustChange(t, d, "no 1 a=, 1 b=v", "13.2: over a dead store")
		mustMake(t, d, laid(1, "c", "w"), gone(2, "d"))
		mustChange(t, d, "no 1 a=, 1 b=v, 1 c=w, no 2 d=", "13.2: over a dead store")
		mustTell(t, d.Back(2), api.OK, "13.2: Back over a dead store")
		mustChange(t, d, "no 1 a=, 1 b=v", "13.2: over a dead store")
	}
	x.Cut(disk.Loss{Torn: -1})
	mustRefuse("13.1: a dead store")
	x.Restart()
	mustRefuse("13.1: a dead store, with power again")
	anew, e := local.Open(x)
	mustTell(t, e, api.OK, "6.1: Open")
	mustBe(t, anew, "1 a=s", "13.1: nothing is turned in the store")
	mustTell(t, anew.Apply(4, d.Changes()), api.OK, "13.3: Apply")
	mustBe(t, anew, "1 b=v", "13.3: Changes of a draft whose store is dead")
}

// TestAStoreThatDiesInAnApply: the Changes are all there or none is, and the draft tells nothing of it.
func TestAStoreThatDiesInAnApply(t *testing.T) {
	for after := 1; ; after++ {
		s, x := newStore(t, pair(1, "a", "s"), pair(2, "c", "s"))
		d := mustDraft(t, s)
		mustMake(t, d, laid(1, "b", "v"), gone(1, "a"), laid(2, "c", "w"))
		told := whole(t, d)
		x.Arm(disk.Loss{After: after, Torn: -1})
		if e := s.Apply(4, d.Changes()); e == api.OK {
			mustBe(t, s, told, "13.3: Apply")
			if after < 3 {
				t.Error("the power never went")
			}
			return
		}
		mustNotGet(t, d, 1, "b", api.ErrDown, "13.1: a dead store")
		mustNotRange(t, d, 1, "", "", 9, api.ErrDown, "13.1: a dead store")
		x.Restart()
		x.Arm(disk.Loss{Torn: -1})
		anew, e := local.Open(x)
		mustTell(t, e, api.OK, "6.1: Open")
		if got := whole(t, anew); got != told && got != "1 a=s, 2 c=s" {
			t.Fatalf("6.5: %s", got)
		}
		mustTell(t, anew.Apply(4, d.Changes()), api.OK, "13.3: Apply")
		mustBe(t, anew, told, "13.3: Apply once more")
	}
}

// TestAPageThatDoesNotRead: what the store refuses is told, of keys that are changed too, and the changes stay.
func TestAPageThatDoesNotRead(t *testing.T) {
	var had []api.Pair
	for i := range 30 {
		had = append(had, pair(1, fmt.Sprintf("k%02d", i), fmt.Sprint("v", i)))
	}
	s, x := newStore(t, had...)
	d := mustDraft(t, s)
	mustMake(t, d, laid(1, "k03", "new"), gone(1, "k20"), laid(1, "k99", "new"), laid(2, "k", "new"))
	told, changes, met := whole(t, d), spelledChanges(d.Changes()), 0
	for id := 2; id < x.Blocks(); id++ {
		x.Flip(id, 99)
		for i := range 32 {
			key := []byte(fmt.Sprintf("k%02d", i))
			_, _, want := s.Get(1, key)
			v, is, e := d.Get(1, key)
			if e != want || e != api.OK && (is || len(v) != 0) {
				t.Fatalf("13.1: Get: %q, %v, %d; not %d", v, is, e, want)
			}
		}
		_, want := s.Range(1, nil, nil, 99)
		if want != api.OK {
			met++
			mustNotRange(t, d, 1, "", "", 99, api.ErrCorrupt, "13.1: a page on the way does not read")
		}
		mustRange(t, d, 1, "", "", 0, "", "13.1: Range of none needs no page")
		mustNotRange(t, d, 1, "", "", -1, api.ErrArg, "13.1: ErrArg ahead of ErrCorrupt")
		mustNotGet(t, d, 1, strings.Repeat("k", 61), api.ErrLong, "13.1: ErrLong ahead of ErrCorrupt")
		mustMake(t, d, laid(1, "k05", "more"))
		mustTell(t, d.Back(4), api.OK, "13.2: Back")
		mustChange(t, d, changes, "rule 4: behind ErrCorrupt")
		x.Flip(id, 99)
		mustBe(t, d, told, "rule 4: behind ErrCorrupt, turned back")
	}
	if met != s.Pages() {
		t.Errorf("13.1: %d pages met, of %d", met, s.Pages())
	}
}
