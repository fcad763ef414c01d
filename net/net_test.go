package net

import (
	"fmt"
	"math"
	"testing"

	"headland/api"
	"headland/disk"
	"headland/node"
)

func TestNewRefuses(t *testing.T) {
	right := []int{1, 5, 3, 4096}
	for _, c := range [][2]int{
		{0, 64}, {6, 64}, {-1, 64}, {7, 64}, {math.MinInt, 64}, {math.MaxInt, 64},
		{1, 2}, {5, 2}, {1, 4097}, {5, 4097}, {3, 1}, {3, 0}, {3, -1}, {3, -3}, {3, math.MinInt}, {3, math.MaxInt}, {0, 2}, {6, 4097}, {0, 3}, {6, 4096},
	} {
		if n, e := New(c[0], c[1]); n != nil || e != api.ErrArg {
			t.Errorf("9.1: New(%d, %d): %v, %d", c[0], c[1], n, e)
		}
	}
	for _, nodes := range right[:2] {
		for _, size := range right[2:] {
			if n, e := New(nodes, size); n == nil || e != api.OK {
				t.Errorf("9.1: New(%d, %d): %v, %d", nodes, size, n, e)
			}
		}
	}
}

func TestNew(t *testing.T) {
	major := []int{0, 1, 2, 2, 3, 3}
	for nodes := 1; nodes <= 5; nodes++ {
		for _, size := range []int{3, 4, 64, 4095, 4096} {
			n, e := New(nodes, size)
			mustBe(t, e, api.OK, fmt.Sprint("9.1: New of ", nodes, " nodes and ", size, " blocks"))
			if n.Nodes() != nodes || n.Major() != major[nodes] {
				t.Fatalf("9.1: Nodes %d, Major %d of %d nodes", n.Nodes(), n.Major(), nodes)
			}
			mustWait(t, n, 0, "9.1: of a new net")
			mustBeLate(t, n, nil, nil, "9.1: of a new net")
			for to := range 6 {
				if n.Up(to) != (to < nodes) {
					t.Fatalf("9.1: node %d of %d is up: %v", to, nodes, n.Up(to))
				}
			}
			for _, h := range n.hosts {
				if h.disk.Blocks() != size || h.disk.Life() != 0 || h.disk.Open() != 0 {
					t.Fatalf("9.1: a disk of %d blocks; not %d", h.disk.Blocks(), size)
				}
			}
			for to := range nodes {
				for log := range 17 {
					a, ok := n.Look(to, state(log))
					mustTell(t, a, ok, api.Answer{}, "9.1: a new node")
				}
			}
		}
	}
}

// TestBlocksAreARoom: a node has as much room as one on a disk of so many blocks.
func TestBlocksAreARoom(t *testing.T) {
	for _, size := range []int{3, 4, 5, 9, 20} {
		n, e := New(2, size)
		mustBe(t, e, api.OK, "9.1: New")
		d, _ := disk.New(size)
		bare, _ := node.Open(d)
		full := 0
		for at := range 60 {
			r := write(0, at, longest)
			want := bare.Do(r)
			a, ok := n.Call(1, r)
			mustTell(t, a, ok, want, fmt.Sprint("9.1: ", size, " blocks, slot ", at))
			if want.Err == api.ErrFull {
				full++
			}
		}
		if full == 0 {
			t.Errorf("9.1: a disk of %d blocks is never full", size)
		}
		mustTellTail(t, n, 0, 0, "9.1: the disk of another node")
	}
}

func mustTellTail(t *testing.T, n *Net, to, want int, why string) {
	t.Helper()
	a, ok := n.Look(to, state(0))
	mustTell(t, a, ok, api.Answer{Tail: want}, why)
}

func TestEachNodeHasADiskOfItsOwn(t *testing.T) {
	n := newNet(t, 5)
	for to := range 5 {
		for at := range to + 1 {
			a, ok := n.Call(to, write(0, at, fmt.Sprint("node ", to, ", slot ", at)))
			mustTell(t, a, ok, api.Answer{Tail: at + 1}, "9.2: Call")
		}
	}
	mustBe(t, n.Crash(2, disk.Loss{}), api.OK, "9.4: Crash")
	mustBeUp(t, n, []bool{true, true, false, true, true}, "9.1: one node without power")
	mustBe(t, n.Restart(2), api.OK, "9.4: Restart")
	for to := range 5 {
		mustTellTail(t, n, to, to+1, "9.1: each on a disk of its own")
		for at := range to + 1 {
			a, ok := n.Look(to, readAt(0, at))
			mustTell(t, a, ok, api.Answer{Tail: to + 1, Value: fmt.Append(nil, "node ", to, ", slot ", at)}, "9.1: each on a disk of its own")
		}
	}
}

func TestExample(t *testing.T) {
	n, e := New(3, 64)
	mustBe(t, e, api.OK, "9.1: New(3, 64)")
	n.Weather(5, 4)
	a, ok := n.Call(0, write(0, 0, "a"))
	mustTellNone(t, a, ok, "9.2: LostReply")
	mustTellTail(t, n, 0, 1, "9.2: LostReply is written")
	a, ok = n.Call(1, write(0, 0, "a"))
	mustTellNone(t, a, ok, "9.2: LostRequest")
	mustTellTail(t, n, 1, 0, "9.2: LostRequest is not written")
	a, ok = n.Call(2, write(0, 0, "a"))
	mustTell(t, a, ok, api.Answer{Tail: 1}, "9.2: no weather")
	mustTellTail(t, n, 2, 1, "9.2: no weather")
	mustWait(t, n, 0, "9.2: all are taken")
}

// TestTwoNets have nothing in common.
func TestTwoNets(t *testing.T) {
	first, second := newNet(t, 2), newNet(t, 2)
	first.Weather(7, 6)
	delayed(t, second, 0, write(0, 0, "a"))
	first.Call(0, seal(1))
	first.Call(1, seal(1))
	mustBe(t, second.Crash(1, disk.Loss{}), api.OK, "9.4: Crash")
	mustWait(t, first, 0, "two nets")
	mustWait(t, second, 0, "two nets")
	mustBeLate(t, first, []int{1}, []api.Request{seal(1)}, "two nets")
	mustBeLate(t, second, []int{0}, []api.Request{write(0, 0, "a")}, "two nets")
	mustBeUp(t, first, []bool{true, true}, "two nets")
	a, ok := second.Look(0, state(1))
	mustTell(t, a, ok, api.Answer{}, "two nets")
}

// TestLook: it tells what a Call without weather would, and changes nothing at all.
func TestLook(t *testing.T) {
	for i, r := range some() {
		n := laidOn(t, newNet(t, 3), before()...)
		delayed(t, n, 1, write(1, 2, "late"))
		n.Weather(4, 5, 6, 7)
		for to := range 3 {
			mustBe(t, n.Arm(to, disk.Loss{After: 1, Torn: -1}), api.OK, "9.4: Arm")
		}
		mustBe(t, n.Crash(2, disk.Loss{}), api.OK, "9.4: Crash")
		was := images(t, n)
		why := fmt.Sprintf("9.4: Look, %d, %s", i, spelled(r))
		for range 3 {
			for to := range 2 {
				a, ok := n.Look(to, r)
				if r.Kind == api.RState || r.Kind == api.RRead {
					mustTell(t, a, ok, newTwin(t, before()...).node.Do(r), why)
				} else {
					mustTellNone(t, a, ok, why)
				}
			}
			for _, to := range append([]int{2, 3, 4}, outside...) {
				a, ok := n.Look(to, r)
				mustTellNone(t, a, ok, fmt.Sprint(why, ", node ", to))
			}
		}
		mustWait(t, n, 4, why)
		mustBeLate(t, n, []int{1}, []api.Request{write(1, 2, "late")}, why)
		mustBeUp(t, n, []bool{true, true, false}, why)
		mustStay(t, n, was, why)
		a, ok := n.Call(0, write(1, 2, "v")) // what waited and was armed does so still
		mustTellNone(t, a, ok, why)
		mustWait(t, n, 3, why)
		n.Call(1, write(1, 2, "v"))
		mustBeUp(t, n, []bool{true, false, false}, why)
	}
}

// TestLookAtWhatDoesNotRead: that is told too.
func TestLookAtWhatDoesNotRead(t *testing.T) {
	n := laidOn(t, newNet(t, 1), before()...)
	spoiled := 0
	for id := 2; id < blocks; id++ {
		n.hosts[0].disk.Flip(id, 99)
		a, ok := n.Look(0, readAt(1, 1))
		want := api.Answer{Tail: 2, Value: []byte(longest)}
		if a.Err != api.OK {
			spoiled++
			want = api.Answer{Err: api.ErrCorrupt, Tail: 2}
		}
		mustTell(t, a, ok, want, "9.4: Look")
		a, ok = n.Call(0, readAt(1, 1))
		mustTell(t, a, ok, want, "9.2: Call")
		n.hosts[0].disk.Flip(id, 99)
	}
	if spoiled == 0 {
		t.Error("9.4: all reads")
	}
}
