package net

import (
	"fmt"
	"testing"

	"headland/api"
	"headland/disk"
)

// changing are requests that change something behind before().
func changing() []api.Request {
	return []api.Request{write(1, 2, "new"), write(16, 0, longest), fix(2, 1, "new"), seal(1), trim(1, 2), prepare(1, 6), accept(1, 5, "other"), accept(3, 2, longest)}
}

// TestPowerThatGoesInACall: nothing is told, it is not up, and on its disk is what is there without a net.
func TestPowerThatGoesInACall(t *testing.T) {
	for _, r := range changing() {
		for _, number := range []int{0, 5, 7} {
			cuts := map[int]int{} // by the doing in which the power went
			for after, cut := 1, true; cut; after++ {
				for _, l := range losses(after) {
					why := fmt.Sprintf("9.2: %s, number %d, %v", spelled(r), number, l)
					n, w := laidOn(t, newNet(t, 2), before()...), newTwin(t, before()...)
					mustBe(t, n.Arm(1, l), api.OK, "9.4: Arm")
					w.disk.Arm(l)
					n.Weather(number, 6)
					a, ok := n.Call(1, r)
					want := api.Answer{}
					for doing := range doings(fated()[number]) {
						was := w.node.Dead()
						want = w.node.Do(r)
						if !was && w.node.Dead() {
							cuts[doing]++
						}
					}
					if cut = w.node.Dead(); !cut {
						if number == 5 {
							mustTellNone(t, a, ok, why)
						} else {
							mustTell(t, a, ok, want, why)
						}
						mustBeUp(t, n, []bool{true, true}, why)
						mustBeTwin(t, n, 1, w, why)
						continue
					}
					mustTellNone(t, a, ok, why)
					mustWait(t, n, 1, why)
					mustBeLate(t, n, nil, nil, why)
					mustBeUp(t, n, []bool{true, false}, why)
					mustBeGone(t, n, 1, why)
					mustBe(t, n.Restart(1), api.OK, why)
					w.open(t)
					mustBeTwin(t, n, 1, w, why)
					mustBeTwin(t, n, 0, newTwin(t, before()...), why)
					n.Fate()
					a, ok = n.Call(1, r)
					mustTell(t, a, ok, w.node.Do(r), why+", and asked again")
				}
			}
			if cuts[0] < 4*6 || number == 7 && r.Kind == api.RAccept && cuts[1] < 4*6 {
				t.Errorf("9.2: %s, number %d: power went %v times", spelled(r), number, cuts)
			}
		}
	}
}

// mustBeGone says that a node that is not up answers nothing.
func mustBeGone(t *testing.T, n *Net, to int, why string) {
	t.Helper()
	waits := n.Ahead()
	for _, r := range []api.Request{state(0), readAt(1, 0), write(1, 2, "x"), state(17)} {
		a, ok := n.Look(to, r)
		mustTellNone(t, a, ok, why+": Look")
	}
	mustWait(t, n, waits, why+": Look")
	mustBe(t, n.Crash(to, disk.Loss{}), api.ErrDown, why+": Crash")
}

// TestPowerThatGoesInADeliver: it is OK all the same, and late no longer.
func TestPowerThatGoesInADeliver(t *testing.T) {
	for _, r := range changing() {
		cuts := 0
		for after, cut := 1, true; cut; after++ {
			for _, l := range losses(after) {
				why := fmt.Sprintf("9.3: %s, %v", spelled(r), l)
				n, w := laidOn(t, newNet(t, 2), before()...), newTwin(t, before()...)
				delayed(t, n, 1, seal(9), r, seal(8))
				n.Arm(1, l)
				w.disk.Arm(l)
				w.node.Do(r)
				mustBe(t, n.Deliver(1), api.OK, why)
				mustBeLate(t, n, []int{1, 1}, []api.Request{seal(9), seal(8)}, why)
				cut = w.node.Dead()
				mustBeUp(t, n, []bool{true, !cut}, why)
				if cut {
					cuts++
					mustBeGone(t, n, 1, why)
					mustBe(t, n.Restart(1), api.OK, why)
					w.open(t)
				}
				mustBeTwin(t, n, 1, w, why)
				mustBeTwin(t, n, 0, newTwin(t, before()...), why)
			}
		}
		if cuts < 4*6 {
			t.Errorf("9.3: %s: power went %d times", spelled(r), cuts)
		}
	}
}

func TestCrash(t *testing.T) {
	n := laidOn(t, newNet(t, 3), before()...)
	was := images(t, n)
	late := []api.Request{seal(9)}
	delayed(t, n, 1, late...)
	n.Weather(7)
	for _, to := range append([]int{3, 4}, outside...) {
		for _, l := range losses(0) {
			mustBe(t, n.Crash(to, l), api.ErrArg, fmt.Sprint("9.4: Crash of node ", to))
		}
	}
	mustStay(t, n, was, "9.4: Crash of no node")
	mustBe(t, n.Crash(1, disk.Loss{After: 5}), api.OK, "9.4: Crash")
	mustBeUp(t, n, []bool{true, false, true}, "9.4: Crash")
	mustBe(t, n.Crash(1, disk.Loss{}), api.ErrDown, "9.4: Crash of one that is not up")
	if life := n.hosts[1].disk.Life(); life != 1 {
		t.Errorf("9.4: the disk lost its power %d times; not once", life)
	}
	mustWait(t, n, 1, "9.4: Crash")
	mustBeLate(t, n, []int{1}, late, "9.4: Crash")
	mustBe(t, n.Restart(1), api.OK, "9.4: Restart")
	mustBeUp(t, n, []bool{true, true, true}, "9.4: Restart")
	mustStay(t, n, was, "9.4: Crash and Restart")
	mustWait(t, n, 1, "9.4: Restart")
	mustBeLate(t, n, []int{1}, late, "9.4: Restart")
	mustBe(t, n.Crash(1, disk.Loss{}), api.OK, "9.4: Crash once more")
	mustBeUp(t, n, []bool{true, false, true}, "9.4: Crash once more")
}

// TestCrashKeepsByItsLoss what is open on the disk.
func TestCrashKeepsByItsLoss(t *testing.T) {
	for _, l := range append(losses(0), disk.Loss{Keep: 2, Torn: 0, Cut: 3}, disk.Loss{Keep: 1, Torn: 9}) {
		n, w := newNet(t, 2), newTwin(t)
		for _, d := range []*disk.Disk{n.hosts[0].disk, n.hosts[1].disk, w.disk} {
			d.Write(20, []byte("first"))
			d.Write(21, []byte("second"))
			d.Write(20, []byte("third, and longer"))
		}
		was := images(t, n)
		mustBe(t, n.Crash(1, l), api.OK, "9.4: Crash")
		if images(t, n)[0] != was[0] {
			t.Fatal("9.4: Crash turns another disk")
		}
		mustBe(t, n.Restart(1), api.OK, "9.4: Restart")
		w.disk.Cut(l)
		w.open(t)
		mustBeTwin(t, n, 1, w, fmt.Sprint("9.4: Crash, ", l))
	}
}

func TestArm(t *testing.T) {
	n := newNet(t, 3)
	for _, to := range append([]int{3, 4}, outside...) {
		mustBe(t, n.Arm(to, disk.Loss{After: 1}), api.ErrArg, fmt.Sprint("9.4: Arm of node ", to))
	}
	mustBe(t, n.Arm(1, disk.Loss{After: 1, Torn: -1}), api.OK, "9.4: Arm")
	mustBeUp(t, n, []bool{true, true, true}, "9.4: Arm alone turns nothing off")
	laid := func(to int) bool {
		_, ok := n.Call(to, write(0, 0, "a"))
		return ok
	}
	if !laid(0) || laid(1) || !laid(2) {
		t.Error("9.4: just what is armed loses its power")
	}
	mustBeUp(t, n, []bool{true, false, true}, "9.4: what is armed")
	mustBe(t, n.Arm(1, disk.Loss{After: 1}), api.OK, "9.4: Arm of one that is not up")
	mustBe(t, n.Restart(1), api.OK, "9.4: Restart")
	if !laid(1) {
		t.Error("9.4: Arm of one that is not up arms nothing")
	}
	for _, l := range []disk.Loss{{}, {After: -1}, {After: 1000}} { // a later one takes the place of an earlier one
		mustBe(t, n.Arm(0, disk.Loss{After: 1}), api.OK, "9.4: Arm")
		mustBe(t, n.Arm(0, l), api.OK, "9.4: Arm")
		if _, ok := n.Call(0, accept(1, 1, "v")); !ok {
			t.Errorf("9.4: Arm of %v behind another one", l)
		}
	}
	mustBe(t, n.Arm(0, disk.Loss{After: 1}), api.OK, "9.4: Arm")
	for _, r := range []api.Request{state(0), readAt(0, 0), write(0, 0, "b"), write(0, 5, "b"), prepare(1, 1), state(17)} {
		if _, ok := n.Call(0, r); !ok || !n.Up(0) {
			t.Errorf("9.4: %s writes nothing", spelled(r))
		}
	}
	if _, ok := n.Call(0, seal(0)); ok || n.Up(0) {
		t.Error("9.4: what is armed is armed behind calls that write nothing")
	}
}

func TestRestart(t *testing.T) {
	n := laidOn(t, newNet(t, 2), before()...)
	was := images(t, n)
	for _, to := range append([]int{2, 3, 4}, outside...) {
		mustBe(t, n.Restart(to), api.ErrArg, fmt.Sprint("9.4: Restart of node ", to))
	}
	mustBe(t, n.Arm(1, disk.Loss{After: 1, Torn: -1}), api.OK, "9.4: Arm")
	for to := range 2 {
		mustBe(t, n.Restart(to), api.ErrArg, "9.4: Restart of one that is up")
	}
	mustStay(t, n, was, "9.4: Restart of one that is up")
	a, ok := n.Call(1, write(1, 2, "x"))
	mustTellNone(t, a, ok, "9.4: what is armed stays so where Restart is refused")
	mustBeUp(t, n, []bool{true, false}, "9.4: what is armed stays so where Restart is refused")
	n.Weather(4)
	mustBe(t, n.Arm(1, disk.Loss{After: 1, Torn: -1}), api.OK, "9.4: Arm")
	mustBe(t, n.Restart(1), api.OK, "9.4: Restart")
	mustBeUp(t, n, []bool{true, true}, "9.4: Restart")
	mustWait(t, n, 1, "9.4: Restart")
	n.Fate()
	mustBe(t, n.Restart(1), api.ErrArg, "9.4: Restart once more")
	a, ok = n.Call(1, write(1, 2, "x"))
	mustTell(t, a, ok, api.Answer{Tail: 3}, "9.4: what was armed ahead of a Restart")
	for i := range 5 {
		mustBe(t, n.Crash(1, disk.Loss{}), api.OK, "9.4: Crash")
		mustBeUp(t, n, []bool{true, false}, "9.4: Crash")
		mustBe(t, n.Restart(1), api.OK, "9.4: Restart")
		mustBeUp(t, n, []bool{true, true}, "9.4: Restart")
		a, ok = n.Call(1, write(1, 3+i, "x"))
		mustTell(t, a, ok, api.Answer{Tail: 4 + i}, "9.4: it goes on from what it kept")
	}
}

// TestRestartRefused: a node whose disk does not read is not up, though its disk has power, till a Restart that opens it.
func TestRestartRefused(t *testing.T) {
	n, w := laidOn(t, newNet(t, 2), before()...), newTwin(t, before()...)
	d := n.hosts[1].disk
	mustBe(t, n.Crash(1, disk.Loss{}), api.OK, "9.4: Crash")
	turn := func() {
		d.Flip(0, 3)
		d.Flip(1, 3)
	}
	turn()
	for range 2 {
		mustBe(t, n.Restart(1), api.ErrCorrupt, "9.4: Restart of a disk without a head")
		mustBeUp(t, n, []bool{true, false}, "9.4: a Restart that was refused")
		mustBeGone(t, n, 1, "9.4: a Restart that was refused")
	}
	if d.Down() {
		t.Error("9.4: its disk has power")
	}
	n.Weather(0, 7, 5, 6)
	for range 4 {
		a, ok := n.Call(1, write(1, 2, "x"))
		mustTellNone(t, a, ok, "9.2: a node that was refused")
	}
	mustWait(t, n, 0, "9.2: a node that was refused")
	mustBe(t, n.Deliver(0), api.OK, "9.3: a node that was refused")
	mustBe(t, n.Arm(1, disk.Loss{After: 1, Torn: -1}), api.OK, "9.4: Arm")
	turn()
	mustBeUp(t, n, []bool{true, false}, "9.4: not opened anew")
	mustBe(t, n.Restart(1), api.OK, "9.4: Restart")
	mustBeUp(t, n, []bool{true, true}, "9.4: Restart")
	mustBeTwin(t, n, 1, w, "9.4: Restart behind one that was refused")
	a, ok := n.Call(1, write(1, 2, "x"))
	mustTell(t, a, ok, api.Answer{Tail: 3}, "9.4: Arm of nothing, whatever was armed")
	mustBeTwin(t, n, 0, w, "9.4: the other node")
}

// TestUp ahead of and behind each call that may turn it.
func TestUp(t *testing.T) {
	n := newNet(t, 2)
	for _, to := range append([]int{2, 3}, outside...) {
		if n.Up(to) {
			t.Errorf("9.4: node %d is up", to)
		}
	}
	up, down := []bool{true, true}, []bool{false, true}
	n.Arm(0, disk.Loss{After: 2, Torn: -1})
	mustBeUp(t, n, up, "9.4: Arm")
	n.Call(0, state(0))
	mustBeUp(t, n, up, "9.4: a Call that writes nothing")
	n.Call(0, seal(0))
	mustBeUp(t, n, down, "9.4: a Call in which the power goes")
	n.Call(0, seal(0))
	n.Call(1, seal(0))
	mustBeUp(t, n, down, "9.4: Calls")
	n.Restart(0)
	mustBeUp(t, n, up, "9.4: Restart")
	delayed(t, n, 0, seal(1), seal(2))
	n.Arm(0, disk.Loss{After: 1, Torn: -1})
	n.Drop(0)
	mustBeUp(t, n, up, "9.4: Drop")
	n.Deliver(0)
	mustBeUp(t, n, down, "9.4: a Deliver in which the power goes")
	n.Restart(0)
	mustBeUp(t, n, up, "9.4: Restart")
	n.Crash(0, disk.Loss{})
	mustBeUp(t, n, down, "9.4: Crash")
	n.Restart(1)
	mustBeUp(t, n, down, "9.4: Restart of the other one")
	n.Restart(0)
	mustBeUp(t, n, up, "9.4: Restart")
	n.Crash(1, disk.Loss{})
	mustBeUp(t, n, []bool{true, false}, "9.4: Crash of the other one")
}
