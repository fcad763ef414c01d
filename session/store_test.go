package session

import (
	"bytes"
	"fmt"
	"testing"

	"headland/api"
	"headland/disk"
	"headland/draft"
)

// TestADeadStore: what the draft refuses is told, and nothing is kept.
func TestADeadStore(t *testing.T) {
	d, _, x := filled(t)
	x.Cut(disk.Loss{Torn: -1})
	for range 2 {
		for session := range api.MaxSessions {
			mustNotLast(t, d, session, api.ErrDown, "over a dead store")
			for _, seq := range []int{1, 10, 20, 21, mostSeq} {
				mustNotLook(t, d, session, seq, api.ErrDown, "over a dead store")
				for _, r := range append(someReplies(), wrongReplies()...) {
					mustNotKeep(t, d, session, seq, r, api.ErrDown, "over a dead store")
				}
			}
		}
		mustNotLast(t, d, 8, api.ErrArg, "no session, over a dead store")
		mustNotLook(t, d, -1, 1, api.ErrArg, "no session, over a dead store")
		mustNotLook(t, d, 0, 1<<31, api.ErrArg, "no number, over a dead store")
		mustNotKeep(t, d, 8, 1, api.Reply{}, api.ErrArg, "no session, over a dead store")
		mustNotKeep(t, d, 0, 0, api.Reply{}, api.ErrArg, "no number, over a dead store")
		x.Restart()
	}
}

// TestAPageThatDoesNotRead: a call that meets it is refused by the draft, and each other one tells what it told before.
func TestAPageThatDoesNotRead(t *testing.T) {
	d, s, x := filled(t)
	told, met, passed := whole(t, d), map[string]int{}, map[string]int{}
	var was [api.MaxSessions]string
	for session := range was {
		was[session] = toldOf(t, d, session)
	}
	for id := 2; id < x.Blocks(); id++ {
		x.Flip(id, 99)
		if s.Check() == api.ErrCorrupt {
			for session := range was {
				meet(t, d, session, was[session], met, passed)
			}
		}
		x.Flip(id, 99)
		if whole(t, d) != told {
			t.Fatal("18.1: behind ErrCorrupt, turned back, the draft tells something else")
		}
	}
	for _, call := range []string{"Look", "Keep", "Last"} {
		if met[call] == 0 || passed[call] == 0 {
			t.Errorf("18.1: %s met a page that does not read %d times, and did without %d times", call, met[call], passed[call])
		}
	}
}

func meet(t *testing.T, d *draft.Draft, session int, was string, met, passed map[string]int) {
	t.Helper()
	mark := d.Mark()
	n, e := Last(d, session)
	if e == api.OK {
		if got := toldOf(t, d, session); got != was {
			t.Fatalf("18.1: beside a page that does not read: %s, not %s", got, was)
		}
		mustKeep(t, d, session, n+1, fullReply())
		mustTell(t, d.Back(mark), api.OK, "13.2: Back")
		for _, call := range []string{"Look", "Keep", "Last"} {
			passed[call]++
		}
		return
	}
	mustNotLast(t, d, session, api.ErrCorrupt, "a page that does not read")
	met["Last"]++
	for _, seq := range []int{1, 10, 40, mostSeq} {
		mustNotLook(t, d, session, seq, api.ErrCorrupt, "a page that does not read")
		met["Look"]++
		for _, r := range []api.Reply{{}, fullReply(), {At: 3}} {
			mustNotKeep(t, d, session, seq, r, api.ErrCorrupt, "a page that does not read")
			met["Keep"]++
		}
	}
}

// laidOf is what Keep lays down.
func laidOf(t *testing.T, seq int, r api.Reply) []byte {
	t.Helper()
	d := newDraft(t)
	mustKeep(t, d, 0, seq, r)
	b, is, e := d.Get(space, key(0))
	if !is || e != api.OK || len(b) > api.MaxValue {
		t.Fatalf("18.1: a Keep laid down %d bytes, %v, error %d", len(b), is, e)
	}
	return b
}

// TestBytes: rule 7: the same is always laid down as the same bytes, whatever was kept before, and nothing else is.
func TestBytes(t *testing.T) {
	for _, seq := range []int{2, 256, mostSeq} {
		for _, r := range someReplies() {
			d := newDraft(t)
			mustKeep(t, d, 0, 1, fullReply())
			mustKeep(t, d, 0, seq, r)
			b, _, _ := d.Get(space, key(0))
			if want := laidOf(t, seq, r); !bytes.Equal(b, want) {
				t.Fatalf("rule 7: %d, %s: %v, then %v", seq, spelled(r), want, b)
			}
			if l := d.Changes(); len(l) != 1 {
				t.Fatalf("rule 7: two Keeps of a session change %d pairs", len(l))
			}
		}
	}
}

// TestBytesOfOthers: a pair of a session that no Keep laid down is refused as entry refuses a reply's bytes.
func TestBytesOfOthers(t *testing.T) {
	reply := laidOf(t, 1, api.Reply{Err: 5, At: 1})[numberBytes:]
	for _, number := range [][]byte{nil, {0}, {0, 0, 1}, {0, 0, 0, 0}, {0x80, 0, 0, 0}, {0xFF, 0xFF, 0xFF, 0xFF}} {
		b := append(bytes.Clone(number), reply...)
		if len(number) < numberBytes {
			b = number
		}
		mustRefuseBytes(t, b)
	}
	mustRefuseBytes(t, []byte{0, 0, 0, 1})
	for _, wrong := range [][]byte{reply[1:], reply[:len(reply)-1], append(bytes.Clone(reply), 0), {0xFF}} {
		d := newDraft(t)
		d.Put(space, key(3), append([]byte{0, 0, 0, 9}, wrong...))
		mustNotLook(t, d, 3, 9, api.ErrForm, "bytes that are no reply's")
		mustLook(t, d, 3, 8, stale, api.Reply{}, "the number stands")
		mustLook(t, d, 3, 10, fresh, api.Reply{}, "the number stands")
		mustLast(t, d, 3, 9, "the number stands")
		mustNotKeep(t, d, 3, 9, api.Reply{}, api.ErrStale, "the number stands")
		mustKeep(t, d, 3, 10, api.Reply{})
	}
}

func mustRefuseBytes(t *testing.T, b []byte) {
	t.Helper()
	d := newDraft(t)
	d.Put(space, key(3), b)
	why := fmt.Sprint("over the bytes ", b)
	mustNotLast(t, d, 3, api.ErrForm, why)
	for _, seq := range []int{1, mostSeq} {
		mustNotLook(t, d, 3, seq, api.ErrForm, why)
		mustNotKeep(t, d, 3, seq, api.Reply{}, api.ErrForm, why)
		mustNotKeep(t, d, 3, seq, api.Reply{At: 3}, api.ErrForm, why)
	}
	mustLast(t, d, 2, 0, why)
}
