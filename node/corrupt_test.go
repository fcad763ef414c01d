package node

import (
	"fmt"
	"strings"
	"testing"

	"headland/api"
	"headland/local"
)

// TestPairsThatNoNodeLaidDown in the places of its own: Open tells it.
func TestPairsThatNoNodeLaidDown(t *testing.T) {
	for i, l := range [][]string{ // keys and values
		{"\x01", ""}, {"\x01", "\x00"}, {"\x01", "\x80"}, {"\x01", "\x80\x01"}, {"\x01", "\x81"}, {"\x01", "\x01\x00"}, {"\x01", "\x01\x01"}, {"\x01", "value"},
		{"\x00", ""}, {"\x10", "\x00"}, {"\x10", strings.Repeat("\xff", 9)}, {"\x01", "\x84\x02"}, {"\x01", "\x84\x03"}, {"\x01", strings.Repeat("\xff", 8) + "\x7f"},
		{"\x01\x01", "v"}, {"\x00\x01", "v"}, {"\x10\xff", "v"}, {"\x01\x00", "v", "\x01\x02", "v"}, {"\x01\x00", "v", "\x01\x01", "v", "\x01\x03", "v"},
		{"\x01", "\x02", "\x01\x00", "v"}, {"\x01", "\x02", "\x01\x02", "v"}, {"\x01", "\x01", "\x01\x01", "v"}, {"\x01", "\x03", "\x01\x01", "v", "\x01\x03", "v"}, {"\x01", "\x84\x00", "\x01\x00", "v"},
		{"\x01\x00\x00", "v"}, {"\x01\x00", "v", "\x01\x00\x00", "v"}, {"\x01\x00", "v", "\x01\x01\x00", "v"}, {"\x10\x00k", "v"},
		{"\x11", "\x01"}, {"\x11\x00", "v"}, {"\xff\x00", "v"}, {"k", "v"},
	} {
		n, d := newNode(t, 60)
		mustDo(t, n, write(9, 0, "a"))
		var changes []api.Change
		for i := 0; i < len(l); i += 2 {
			changes = append(changes, api.Change{Pair: api.Pair{Space: space, Key: []byte(l[i]), Value: []byte(l[i+1])}})
		}
		if e := n.store.Apply(0, changes); e != api.OK {
			t.Fatalf("6.3: Apply: %d", e)
		}
		mustNotOpen(t, d, api.ErrCorrupt, fmt.Sprint("pairs of list ", i))
	}
	n, d := newNode(t, 60)
	if e := n.store.Apply(0, []api.Change{{Pair: api.Pair{Space: 15, Key: []byte{1}, Value: []byte("value")}}}); e != api.OK {
		t.Fatalf("6.3: Apply: %d", e)
	}
	mustNotOpen(t, d, api.ErrCorrupt, "a register's pair that no register laid down")
}

// TestASlotThatIsGone: a value that should be there, and is not, is not taken for an empty one.
func TestASlotThatIsGone(t *testing.T) {
	n, _ := newNode(t, 60)
	mustDo(t, n, writes(1, "a", "b")...)
	if e := n.store.Apply(0, []api.Change{{Pair: api.Pair{Space: space, Key: slotKey(1, 0)}, Gone: true}}); e != api.OK {
		t.Fatalf("6.3: Apply: %d", e)
	}
	mustAnswer(t, n.Do(readAt(1, 0)), open(api.ErrCorrupt, 2, 0, ""), "8.2: a slot that is gone")
	mustAnswer(t, n.Do(readAt(1, 1)), open(ok, 2, 0, "b"), "8.2: beside a slot that is gone")
}

// TestAPageThatDoesNotRead: it is told, and nothing is changed; turned back, all is as it was.
func TestAPageThatDoesNotRead(t *testing.T) {
	first, base := newNode(t, 50)
	var all []api.Request
	for log := range 6 {
		all = append(all, writes(log, "", "a", strings.Repeat("v", 100*log), "c")...)
	}
	mustDo(t, first, all...)
	reads, trims := 0, 0
	for id := 2; id < 50; id++ {
		d, want := copied(t, base), plain{}.behind(all...)
		n := mustOpen(t, d)
		d.Flip(id, 99)
		if _, e := local.Open(d); e == api.OK { // nobody needs it
			mustFind(t, d, want, "8.1: a page that is not the store's")
			continue
		}
		mustNotOpen(t, d, api.ErrCorrupt, "a page that does not read")
		for log := range 6 {
			for _, r := range []api.Request{readAt(log, 0), readAt(log, 3), trim(log, 2), write(log, 4, "new"), seal(log)} {
				right, next := want.answer(r)
				a := n.Do(r)
				if a.Err != api.ErrCorrupt {
					want = next
				} else {
					right, _ = want.answer(state(log))
					right.Err = api.ErrCorrupt
					reads++
					if r.Kind == api.RTrim {
						trims++
					}
				}
				mustAnswer(t, a, right, fmt.Sprintf("8.1: page %d does not read, %s", id, spelled(r)))
			}
		}
		d.Flip(id, 99)
		mustKnow(t, n, want, "rule 4: behind ErrCorrupt, turned back")
		mustFind(t, d, want, "rule 4: behind ErrCorrupt, turned back")
	}
	if reads == 0 || trims == 0 {
		t.Errorf("8.1: %d requests met a page that does not read, %d trims", reads, trims)
	}
}
