package draft

import (
	"bytes"
	"testing"

	"headland/api"
)

// hands is what was handed in, with its spare room, and how it was.
type hands struct{ rooms, copies [][]byte }

func (h *hands) hand(text string) []byte {
	b, room := spacious(text)
	h.rooms, h.copies = append(h.rooms, room), append(h.copies, bytes.Clone(room))
	return b
}

func (h *hands) mustStay(t *testing.T, why string) {
	t.Helper()
	for i, r := range h.rooms {
		if !bytes.Equal(r, h.copies[i]) {
			t.Fatalf("rule 2: %s changed what was handed in", why)
		}
	}
}

func TestWhatIsHandedIn(t *testing.T) {
	d, s := newDraft(t, pair(1, "a", "s"), pair(1, "b", "s"), pair(1, "c", "s"))
	var h hands
	d.Put(1, h.hand("b"), h.hand("put"))
	d.Put(1, h.hand("d"), h.hand(""))
	d.Delete(1, h.hand("a"))
	d.Put(2, h.hand("e"), h.hand("put again"))
	d.Get(1, h.hand("b"))
	d.Get(1, h.hand("c"))
	d.Get(1, h.hand("none"))
	d.Range(1, h.hand("a"), h.hand("d"), 9)
	d.Range(1, h.hand("b"), h.hand("z"), 1)
	d.Changes()
	d.Back(3)
	d.Put(2, h.hand("f"), h.hand("behind a Back"))
	h.mustStay(t, "a call")
	spoil(h.rooms...)
	mustBe(t, d, "1 b=put, 1 c=s, 1 d=, 2 f=behind a Back", "rule 2: what was handed in is not kept")
	mustChange(t, d, "no 1 a=, 1 b=put, 1 d=, 2 f=behind a Back", "rule 2: what was handed in is not kept")
	mustTell(t, s.Apply(4, d.Changes()), api.OK, "13.3: Apply")
	mustBe(t, s, "1 b=put, 1 c=s, 1 d=, 2 f=behind a Back", "rule 2: what was handed in is not kept")
}

func spoilPairs(l []api.Pair) {
	for _, p := range l {
		spoil(p.Key, p.Value)
	}
	clear(l[:cap(l)])
}

func TestAnswersAreNewMemory(t *testing.T) {
	d, s := newDraft(t, pair(1, "a", "of the store"), pair(1, "b", "of the store"), pair(1, "c", "of the store"))
	mustMake(t, d, laid(1, "b", "put"), laid(1, "d", "put"), gone(1, "c"), laid(1, "d", "put again"), laid(2, "e", "put"))
	told, changes := whole(t, d), spelledChanges(d.Changes())
	mustStay := func(why string) {
		t.Helper()
		mustBe(t, d, told, "rule 2: behind "+why+" whose answer was overwritten")
		mustChange(t, d, changes, "rule 2: behind "+why+" whose answer was overwritten")
		mustBe(t, s, "1 a=of the store, 1 b=of the store, 1 c=of the store", "rule 2: the store behind "+why)
	}
	for _, key := range []string{"a", "b", "c", "d"} {
		first, _, _ := d.Get(1, []byte(key))
		second, _, _ := d.Get(1, []byte(key))
		was := string(second)
		spoil(first)
		if string(second) != was {
			t.Fatal("rule 2: two Gets share memory")
		}
		mustStay("Get")
	}
	for _, most := range []int{0, 1, 2, 9} {
		first, _ := d.Range(1, nil, nil, most)
		second, _ := d.Range(1, nil, nil, most)
		was := spelled(second)
		spoilPairs(first)
		if spelled(second) != was {
			t.Fatal("rule 2: two Ranges share memory")
		}
		mustStay("Range")
	}
	first, second := d.Changes(), d.Changes()
	for _, c := range first {
		spoil(c.Key, c.Value)
	}
	clear(first[:cap(first)])
	if spelledChanges(second) != changes {
		t.Fatal("rule 2: two Changes share memory")
	}
	mustStay("Changes")
	// A list that is told may be made longer by who asked for it, and does not reach what the draft adds.
	more := append(second, laid(3, "other", "v"))
	mustMake(t, d, laid(3, "own", "w"))
	if got := spelledChanges(more[len(more)-1:]); got != "3 other=v" {
		t.Fatalf("rule 2: a Put reaches what Changes told: %s", got)
	}
	mustChange(t, d, changes+", 3 own=w", "rule 2: what Changes told was made longer")
}

// TestAnAnswerStays: what was told is not turned by what the draft does later, not even where it lays changes in the place of others.
func TestAnAnswerStays(t *testing.T) {
	d, _ := newDraft(t, pair(1, "a", "s"))
	mustMake(t, d, laid(1, "b", "1"), laid(1, "c", "2"))
	value, _, _ := d.Get(1, []byte("b"))
	l, _ := d.Range(1, nil, nil, 9)
	changes := d.Changes()
	mustTell(t, d.Back(0), api.OK, "13.2: Back")
	mustMake(t, d, laid(1, "x", "3"), gone(1, "a"), laid(1, "z", "4"))
	if string(value) != "1" || spelled(l) != "1 a=s, 1 b=1, 1 c=2" || spelledChanges(changes) != "1 b=1, 1 c=2" {
		t.Errorf("rule 2: %s, %s, %s", value, spelled(l), spelledChanges(changes))
	}
}

// mustNotShare says that no two lists of an answer share memory: each is filled with a number of its own.
func mustNotShare(t *testing.T, l []api.Pair) {
	t.Helper()
	var parts [][]byte
	for _, p := range l {
		parts = append(parts, p.Key[:cap(p.Key)], p.Value[:cap(p.Value)])
	}
	for i, b := range parts {
		for j := range b {
			b[j] = byte(i)
		}
	}
	for i, b := range parts {
		if len(b) == 0 || len(b) != bytes.Count(b, []byte{byte(i)}) {
			t.Fatalf("rule 2: list %d of %d shares memory", i, len(parts))
		}
	}
}

func TestNoTwoListsOfAnAnswer(t *testing.T) {
	d, _ := newDraft(t, pair(1, "a", "s"), pair(1, "b", "s"), pair(1, "c", "s"))
	both := bytes.Repeat([]byte("k"), 9)
	for i := 1; i < 9; i++ {
		mustTell(t, d.Put(1, both[:i], both[:i]), api.OK, "13.1: Put of one memory as key and value")
		mustTell(t, d.Put(2, both[i:], both[:i]), api.OK, "13.1: Put of one memory as key and value")
	}
	told := whole(t, d)
	l, e := d.Range(1, nil, nil, 99)
	mustTell(t, e, api.OK, "13.1: Range")
	mustNotShare(t, l)
	var changed []api.Pair
	for _, c := range d.Changes() {
		changed = append(changed, c.Pair)
	}
	mustNotShare(t, changed)
	mustBe(t, d, told, "rule 2: answers that were overwritten")
}

// TestTwoDrafts: drafts over one store know nothing of one another.
func TestTwoDrafts(t *testing.T) {
	a, s := newDraft(t, pair(1, "k", "s"))
	b := mustDraft(t, s)
	mustMake(t, a, laid(1, "k", "of a"), laid(1, "l", "of a"))
	mustMake(t, b, gone(1, "k"))
	mustBe(t, a, "1 k=of a, 1 l=of a", "13.1: one draft")
	mustBe(t, b, "", "13.1: the other one")
	mustTell(t, s.Apply(4, a.Changes()), api.OK, "6.3: Apply")
	mustBe(t, b, "1 l=of a", "13.1: over what the store tells now")
	mustTell(t, b.Back(0), api.OK, "13.2: Back")
	mustBe(t, b, "1 k=of a, 1 l=of a", "13.1: over what the store tells now")
}
