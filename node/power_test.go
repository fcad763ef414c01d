package node

import (
	"bytes"
	"fmt"
	"math/rand"
	"slices"
	"strings"
	"testing"

	"headland/api"
	"headland/disk"
)

func TestDead(t *testing.T) {
	for _, all := range [][]api.Request{
		nil, {write(1, 0, "a")}, {seal(2), prepare(2, 5), accept(1, 3, "v")}, {write(0, 0, "a"), write(0, 1, longest), trim(0, 1), write(16, 0, ""), seal(16), fix(16, 1, "b")},
	} {
		n, d := newNode(t, 60)
		mustDo(t, n, all...)
		was := plain{}.behind(all...)
		d.Cut(disk.Loss{Keep: keepAll, Torn: -1})
		mustBeDead(t, n, was, "without power")
		d.Restart()
		mustBeDead(t, n, was, "with power again")
		anew := mustFind(t, d, was, "8.2: opened anew")
		mustDo(t, anew, prepare(1, 99), write(3, 0, "c"), seal(1))
		mustBeDead(t, n, was, "another one opened anew")
		mustFind(t, d, was.behind(prepare(1, 99), write(3, 0, "c"), seal(1)), "8.2: beside a dead one")
	}
}

// losses are ways to lose power at a write or flush: open writes kept, lost and torn.
func losses(after int) []disk.Loss {
	l := []disk.Loss{{Torn: -1}, {Keep: keepAll, Torn: -1}, {Keep: 0x5555555555555555, Torn: -1}, {Keep: ^uint64(0x5555555555555555), Torn: -1}}
	for i, cut := range []int{0, 11, 17, 8191} {
		l = append(l, disk.Loss{Keep: keepAll * uint64(cut%2), Torn: i % 2, Cut: cut})
	}
	for i := range l {
		l[i].After = after
	}
	return l
}

// mustGoOn says that a disk whose power went has a node as it was, or as it was to be, and goes on from there.
func mustGoOn(t *testing.T, d *disk.Disk, kept, under plain, why string) (*Node, plain) {
	t.Helper()
	d.Restart()
	n := mustOpen(t, d)
	now := found(t, n)
	if now.String() != kept.String() && now.String() != under.String() {
		t.Fatalf("8.2: %s: it knows\n%s; neither\n%s, nor\n%s", why, now, kept, under)
	}
	mustList(t, n, now, "8.2: "+why)
	return n, now
}

// TestPowerLostAtEachWriteAndFlush of each kind of request that changes something.
func TestPowerLostAtEachWriteAndFlush(t *testing.T) {
	before := slices.Concat(writes(1, "a", longest, "c", "", "e"), writes(2, "f", "g"), []api.Request{seal(2), trim(2, 1), prepare(1, 9), accept(2, 5, "v")})
	kept := plain{}.behind(before...)
	first, base := newNode(t, 40)
	mustDo(t, first, before...)
	for _, r := range []api.Request{
		write(1, 5, "new"), write(1, 5, longest), write(16, 0, ""), fix(2, 2, "new"), fix(2, 2, longest),
		seal(0), seal(1), trim(1, 1), trim(1, 4), trim(1, 5), trim(2, 2), prepare(1, 10), accept(1, 9, "new"), accept(2, 6, longest),
	} {
		want, under := kept.answer(r)
		cut, cuts := true, 0
		for after := 1; cut; after++ {
			for i, l := range losses(after) {
				d := copied(t, base)
				n := mustOpen(t, d)
				why := fmt.Sprint(spelled(r), ", ", l)
				d.Arm(l)
				a := n.Do(r)
				if cut = n.Dead(); !cut {
					mustAnswer(t, a, want, "8.1: "+why)
					d.Cut(l)
					mustGoOn(t, d, under, under, why)
					continue
				}
				cuts++
				mustAnswer(t, a, api.Answer{Err: api.ErrDown}, "8.1: "+why)
				if i < 2 {
					mustBeDead(t, n, kept, why)
				}
				n, now := mustGoOn(t, d, kept, under, why)
				if i == 1 {
					d.Cut(l)
					n, _ = mustGoOn(t, d, now, now, why+", and once more")
				}
				again, behind := now.answer(r)
				mustAnswer(t, n.Do(r), again, "8.2: "+why+", and asked again")
				mustKnow(t, n, behind, "8.2: "+why+", and asked again")
			}
		}
		if cuts < 4*8 {
			t.Errorf("8.2: %s: power was lost %d times", spelled(r), cuts)
		}
	}
}

// someRequest is a request of few loglets, near their tails; now and then one that is refused.
func someRequest(r *rand.Rand, p plain) api.Request {
	q := api.Request{Kind: []int{1, 1, 1, 1, 2, 2, 3, 4, 5, 5, 6, 6, 7, 8}[r.Intn(14)], Log: []int{0, 1, 1, 2, 3, 4, 8, 16}[r.Intn(8)]}
	if q.Kind == api.RSeal && r.Intn(4) > 0 {
		q.Kind = api.RWrite
	}
	q.At = max(0, len(p.rows[q.Log].slots)-2+r.Intn(4))
	if q.Kind >= api.RPrepare {
		q.At = p.known[q.Log].promised - 2 + r.Intn(5)
	}
	if (q.Kind == api.RRead || q.Kind == api.RTrim) && r.Intn(2) == 0 {
		q.At = p.rows[q.Log].trimmed - 1 + r.Intn(3)
	}
	q.Value = bytes.Repeat([]byte{byte('a' + r.Intn(26))}, []int{0, 1, 2, 3, 300, 1800}[r.Intn(6)])
	switch r.Intn(40) {
	case 0:
		q.Log = []int{-1, 17, 99}[r.Intn(3)]
	case 1:
		q.At = []int{-1, 255, 256, 999}[r.Intn(4)]
	case 2:
		q.Kind = []int{-1, 0, 9}[r.Intn(3)]
	case 3:
		q.Value = make([]byte, 1801)
	}
	return q
}

// refusedByRoom is what a request that has no room is answered.
func refusedByRoom(p plain, r api.Request) api.Answer {
	if r.Kind >= api.RPrepare {
		return api.Answer{Err: api.ErrFull}
	}
	a, _ := p.answer(state(r.Log))
	a.Err = api.ErrFull
	return a
}

// TestModel: requests one behind the other, on much room and on little, beside a plain node.
func TestModel(t *testing.T) {
	full := 0
	for seed := range int64(24) {
		r := rand.New(rand.NewSource(seed))
		n, d := newNode(t, []int{9, 20, 300}[seed%3])
		var p plain
		for i := range 250 {
			q := someRequest(r, p)
			want, next := p.answer(q)
			a := n.Do(q)
			if a.Err == api.ErrFull && next.String() != p.String() {
				full++
				mustAnswer(t, a, refusedByRoom(p, q), "8.1: "+spelled(q))
			} else {
				mustAnswer(t, a, want, "8.1: "+spelled(q))
				p = next
			}
			if i%25 == 0 {
				mustKnow(t, n, p, "8.1: a plain node")
				n = mustFind(t, d, p, "8.2: a plain node, opened anew")
			}
		}
	}
	if full == 0 {
		t.Error("no disk was ever full")
	}
}

// TestLossBehindLoss: a node goes on from what was found, many times; what it answered is so ever after.
func TestLossBehindLoss(t *testing.T) {
	unsaid := 0
	for seed := range int64(20) {
		r := rand.New(rand.NewSource(seed))
		n, d := newNode(t, 14+7*int(seed))
		var kept plain
		for range 20 {
			all := losses(1 + r.Intn(40))
			l := all[r.Intn(len(all))]
			if r.Intn(3) == 0 {
				l.Keep = r.Uint64()
			}
			d.Arm(l)
			under := kept
			for tries := 0; !n.Dead(); tries++ {
				if tries == 500 {
					d.Cut(l)
					break
				}
				q := someRequest(r, kept)
				want, next := kept.answer(q)
				switch a := n.Do(q); {
				case a.Err == api.ErrDown:
					mustAnswer(t, a, api.Answer{Err: api.ErrDown}, "8.1: "+spelled(q))
					under = next
				case a.Err == api.ErrFull && next.String() != kept.String():
					mustAnswer(t, a, refusedByRoom(kept, q), "8.1: "+spelled(q))
				default:
					mustAnswer(t, a, want, "8.1: "+spelled(q))
					kept, under = next, next
				}
			}
			was := kept
			n, kept = mustGoOn(t, d, was, under, fmt.Sprint("seed ", seed, ", ", l))
			if kept.String() != was.String() {
				unsaid++
			}
		}
	}
	if unsaid == 0 {
		t.Error("nothing that was under way was ever found")
	}
}

// TestEverAfter: a slot keeps its first value, a sealed loglet takes no RWrite, Tail and Trimmed never fall, whoever asks what.
func TestEverAfter(t *testing.T) {
	for seed := range int64(12) {
		r := rand.New(rand.NewSource(seed))
		n, d := newNode(t, 30+20*int(seed))
		var p plain
		was := shown(t, n)
		for i := range 120 {
			q := someRequest(r, p)
			if i%9 == 0 {
				all := losses(1 + r.Intn(9))
				d.Arm(all[r.Intn(len(all))])
			}
			a := n.Do(q)
			sealed := q.Log >= 0 && q.Log <= 16 && was.rows[q.Log].sealed
			if a.Err == api.OK && q.Kind == api.RWrite && sealed {
				t.Fatalf("8.2: %s of a sealed loglet: %s", spelled(q), told(a))
			}
			if n.Dead() {
				d.Restart()
				n = mustOpen(t, d)
			}
			now := shown(t, n)
			for log, w := range now.rows {
				mustNotFall(t, was.rows[log], w, fmt.Sprintf("8.2: seed %d, %s, loglet %d", seed, spelled(q), log))
			}
			was, p.rows = now, now.rows
			if q.Kind == api.RPrepare && a.Err == api.OK {
				p.known[q.Log].promised = a.Tail
			}
		}
	}
}

func mustNotFall(t *testing.T, was, now row, why string) {
	t.Helper()
	if len(now.slots) < len(was.slots) || now.trimmed < was.trimmed || was.sealed && !now.sealed {
		t.Fatalf("%s: %v behind %v", why, now, was)
	}
	for at := now.trimmed; at < len(was.slots); at++ {
		if now.slots[at] != was.slots[at] {
			t.Fatalf("%s: slot %d is %s behind %s", why, at, short(now.slots[at]), short(was.slots[at]))
		}
	}
}

// TestRoomStepByStep: with more and more room, from none on, a request is refused without a trace till it is done.
func TestRoomStepByStep(t *testing.T) {
	for _, all := range [][]api.Request{
		slices.Concat(writes(1, "a", longest, "c"), []api.Request{trim(1, 1), seal(1), fix(1, 3, "d"), trim(1, 3), prepare(1, 5), accept(1, 5, longest), write(0, 0, longest)}),
		{seal(16), fix(16, 0, longest), accept(3, 1, longest), write(0, 0, longest), write(0, 1, longest), trim(0, 2), trim(16, 1), prepare(3, 2), seal(0), write(2, 0, "v")},
	} {
		for blocks := 3; blocks < 40; blocks++ {
			n, d := newNode(t, blocks)
			var p plain
			full := 0
			for _, r := range all {
				want, next := p.answer(r)
				number := n.store.Number()
				a := n.Do(r)
				if a.Err != api.ErrFull {
					mustAnswer(t, a, want, "8.1: "+spelled(r))
					p = next
					continue
				}
				full++
				mustAnswer(t, a, refusedByRoom(p, r), "8.1: "+spelled(r)+" without room")
				if n.store.Number() != number || n.Dead() {
					t.Fatalf("8.1: %s without room changes the store", spelled(r))
				}
				mustKnow(t, n, p, "8.1: "+spelled(r)+" without room")
				mustFind(t, d, p, "8.1: "+spelled(r)+" without room, opened anew")
				mustNeedNoRoom(t, n, p, r.Log)
			}
			if blocks == 3 && full == 0 || blocks > 34 && full != 0 {
				t.Errorf("8.1: %d requests refused on %d blocks", full, blocks)
			}
		}
	}
}

// mustNeedNoRoom says that what changes nothing is answered without room too.
func mustNeedNoRoom(t *testing.T, n *Node, p plain, log int) {
	t.Helper()
	tail, trimmed := len(p.rows[log].slots), p.rows[log].trimmed
	l := []api.Request{state(log), readAt(log, tail), readAt(log, trimmed), trim(log, trimmed), trim(log, 0), trim(log, tail+1), write(log, tail+1, "v"), write(log, 256, "v"), fix(log, tail+1, "v"), fix(log, 256, "v")}
	if p.rows[log].sealed {
		l = append(l, seal(log), write(log, tail, "v"))
	} else {
		l = append(l, fix(log, tail, "v"))
	}
	if tail > 0 {
		l = append(l, write(log, tail-1, "v"), fix(log, 0, "v"))
	}
	for _, r := range append(l, prepare(log, 0), write(17, 0, "v"), write(log, tail, strings.Repeat("v", 1801))) {
		want, _ := p.answer(r)
		mustAnswer(t, n.Do(r), want, "8.1: "+spelled(r)+" without room")
	}
}

// TestTheSameForTheSame: two runs write the same bytes.
func TestTheSameForTheSame(t *testing.T) {
	var disks [2]*disk.Disk
	for i := range disks {
		r := rand.New(rand.NewSource(8))
		n, d := newNode(t, 120)
		var p plain
		for range 200 {
			q := someRequest(r, p)
			n.Do(q)
			p = p.behind(q)
		}
		disks[i] = d
	}
	for at := range 120 {
		a, _ := disks[0].Read(at)
		b, _ := disks[1].Read(at)
		if !bytes.Equal(a, b) {
			t.Fatalf("rule 7: block %d is not the same", at)
		}
	}
}
