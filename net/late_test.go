package net

import (
	"fmt"
	"math"
	"slices"
	"testing"

	"headland/api"
	"headland/disk"
)

// TestLate: requests are told whole, in their order, right ones and wrong ones.
func TestLate(t *testing.T) {
	n := newNet(t, 3)
	var to []int
	for i, r := range some() {
		delayed(t, n, i%3, r)
		to = append(to, i%3)
		mustBeLate(t, n, to, some()[:i+1], "9.3: Late")
	}
	for i, l := range n.Late() {
		if string(l.Request.Value) != string(some()[i].Value) {
			t.Fatalf("9.3: the value of %d is another one", i)
		}
	}
	mustBeLate(t, n, to, some(), "9.3: Late changes nothing")
}

// TestMostLate: the 64th is late, a 65th is lost, till there is room again.
func TestMostLate(t *testing.T) {
	for _, free := range []func(n *Net, i int) api.Errno{(*Net).Deliver, (*Net).Drop} {
		n := newNet(t, 2)
		var to []int
		var all []api.Request
		for i := range 64 {
			mustBeLate(t, n, to, all, fmt.Sprint("9.2: ", i, " are late"))
			to, all = append(to, i%2), append(all, prepare(1, i+1))
			delayed(t, n, i%2, all[i])
		}
		mustBeLate(t, n, to, all, "9.2: the 64th is late")
		was := images(t, n)
		for i := range 7 {
			delayed(t, n, i%2, prepare(2, 99))
			mustBeLate(t, n, to, all, "9.2: a 65th is lost")
			mustWait(t, n, 0, "9.2: a Fate is taken of one that is lost")
		}
		mustStay(t, n, was, "9.2: a 65th is lost")
		a, ok := n.Call(0, prepare(3, 1))
		mustTell(t, a, ok, api.Answer{Tail: 1}, "9.2: others are done")
		mustBe(t, free(n, 30), api.OK, "9.3")
		to, all = slices.Delete(to, 30, 31), slices.Delete(all, 30, 31)
		mustBeLate(t, n, to, all, "9.3: 63 are late")
		delayed(t, n, 1, seal(4))
		delayed(t, n, 0, seal(5))
		mustBeLate(t, n, append(to, 1), append(all, seal(4)), "9.2: room for one")
		for range 64 {
			mustBe(t, free(n, 0), api.OK, "9.3")
		}
		mustBe(t, free(n, 0), api.ErrNone, "9.3: none is late any more")
		mustBeLate(t, n, nil, nil, "9.3")
	}
}

// TestDeliverAndDropOfNone change nothing.
func TestDeliverAndDropOfNone(t *testing.T) {
	for count := range 4 {
		n := laidOn(t, newNet(t, 2), before()...)
		l := []api.Request{write(1, 2, "x"), seal(1), accept(1, 7, "y")}[:count]
		delayed(t, n, 1, l...)
		n.Weather(7, 4)
		was := images(t, n)
		for _, i := range []int{math.MinInt, -2, -1, count, count + 1, 64, math.MaxInt} {
			mustBe(t, n.Deliver(i), api.ErrNone, fmt.Sprint("9.3: Deliver(", i, ") of ", count))
			mustBe(t, n.Drop(i), api.ErrNone, fmt.Sprint("9.3: Drop(", i, ") of ", count))
		}
		mustBeLate(t, n, []int{1, 1, 1}, l, "9.3: none")
		mustStay(t, n, was, "9.3: none")
		mustWait(t, n, 2, "9.3: none")
	}
}

// TestDeliver: in whatever order, each is done once, at its node, and those behind it move up.
func TestDeliver(t *testing.T) {
	l := []api.Request{write(1, 2, "x"), accept(1, 7, "y"), write(1, 2, "z"), seal(1), prepare(1, 0)}
	to := []int{0, 1, 1, 0, 1}
	for _, order := range [][]int{{0, 0, 0, 0, 0}, {4, 3, 2, 1, 0}, {2, 2, 0, 1, 0}, {1, 0, 2, 0, 0}, {3, 0, 1, 1, 0}} {
		n := laidOn(t, newNet(t, 2), before()...)
		twins := []*twin{newTwin(t, before()...), newTwin(t, before()...)}
		late, nodes := slices.Clone(l), slices.Clone(to)
		for i, r := range l {
			delayed(t, n, to[i], r)
		}
		n.Weather(4, 4, 7, 6, 5)
		for _, i := range order {
			why := fmt.Sprint("9.3: Deliver(", i, ") in the order ", order)
			mustBe(t, n.Deliver(i), api.OK, why)
			twins[nodes[i]].node.Do(late[i])
			late, nodes = slices.Delete(late, i, i+1), slices.Delete(nodes, i, i+1)
			mustBeLate(t, n, nodes, late, why)
			mustWait(t, n, 5, why+": no Fate is taken")
			for node, w := range twins {
				mustBeTwin(t, n, node, w, why)
			}
		}
		mustBe(t, n.Deliver(0), api.ErrNone, "9.3: all are delivered")
	}
}

func TestDrop(t *testing.T) {
	l := []api.Request{write(1, 2, "x"), seal(1), accept(1, 7, "y"), trim(1, 2), prepare(1, 8)}
	to := []int{0, 1, 1, 0, 1}
	for i := range l {
		n := laidOn(t, newNet(t, 2), before()...)
		for i, r := range l {
			delayed(t, n, to[i], r)
		}
		n.Weather(7, 7)
		was := images(t, n)
		mustBe(t, n.Drop(i), api.OK, fmt.Sprint("9.3: Drop(", i, ")"))
		mustBeLate(t, n, slices.Delete(slices.Clone(to), i, i+1), slices.Delete(slices.Clone(l), i, i+1), fmt.Sprint("9.3: Drop(", i, ")"))
		for range 4 {
			mustBe(t, n.Drop(0), api.OK, "9.3: Drop(0)")
		}
		mustBe(t, n.Drop(0), api.ErrNone, "9.3: all are dropped")
		mustStay(t, n, was, "9.3: Drop")
		mustWait(t, n, 2, "9.3: Drop")
	}
}

// TestDeliverTellsNothing of what its node answered, whatever that was.
func TestDeliverTellsNothing(t *testing.T) {
	for _, r := range some() {
		n, w := laidOn(t, newNet(t, 1), before()...), newTwin(t, before()...)
		delayed(t, n, 0, r)
		w.node.Do(r)
		mustBe(t, n.Deliver(0), api.OK, "9.3: Deliver of "+spelled(r))
		mustBeTwin(t, n, 0, w, "9.3: Deliver of "+spelled(r))
		mustBeLate(t, n, nil, nil, "9.3: Deliver of "+spelled(r))
	}
}

// TestDeliverToANodeThatIsNotUp: it is late no longer, and never done.
func TestDeliverToANodeThatIsNotUp(t *testing.T) {
	n := laidOn(t, newNet(t, 2), before()...)
	was := images(t, n)
	delayed(t, n, 1, write(1, 2, "x"), seal(1))
	mustBe(t, n.Crash(1, disk.Loss{}), api.OK, "9.4: Crash")
	delayed(t, n, 1, accept(1, 7, "y"))
	mustBeLate(t, n, []int{1, 1, 1}, []api.Request{write(1, 2, "x"), seal(1), accept(1, 7, "y")}, "9.3: late behind a Crash")
	mustBe(t, n.Deliver(0), api.OK, "9.3: Deliver to a node that is not up")
	mustBe(t, n.Deliver(1), api.OK, "9.3: Deliver to a node that is not up")
	mustBeLate(t, n, []int{1}, []api.Request{seal(1)}, "9.3: late no longer")
	mustBeUp(t, n, []bool{true, false}, "9.3: Deliver to a node that is not up")
	mustBe(t, n.Restart(1), api.OK, "9.4: Restart")
	mustStay(t, n, was, "9.3: Deliver to a node that is not up")
	mustBeLate(t, n, []int{1}, []api.Request{seal(1)}, "9.3: late behind a Restart")
	mustBe(t, n.Deliver(0), api.OK, "9.3: Deliver behind a Restart")
	mustBeTwin(t, n, 1, newTwin(t, append(before(), seal(1))...), "9.3: Deliver behind a Restart")
	mustBeTwin(t, n, 0, newTwin(t, before()...), "9.3: the other node")
}

// TestDeliveredLate: what is done behind others is answered by what was there then.
func TestDeliveredLate(t *testing.T) {
	n := newNet(t, 1)
	delayed(t, n, 0, write(0, 0, "late"), write(0, 1, "late"), prepare(1, 5), write(0, 2, "late"))
	for at, value := range []string{"a", "b"} {
		a, ok := n.Call(0, write(0, at, value))
		mustTell(t, a, ok, api.Answer{Tail: at + 1}, "9.2: Call")
	}
	for range 3 {
		mustBe(t, n.Deliver(0), api.OK, "9.3: Deliver")
	}
	for at, value := range []string{"a", "b"} {
		a, ok := n.Look(0, readAt(0, at))
		mustTell(t, a, ok, api.Answer{Tail: 2, Value: []byte(value)}, "9.3: a late one comes too late")
	}
	a, ok := n.Call(0, prepare(1, 4))
	mustTell(t, a, ok, api.Answer{Err: api.ErrOwner, Tail: 5}, "9.3: a late RPrepare is done")
	mustBe(t, n.Deliver(0), api.OK, "9.3: Deliver")
	a, ok = n.Look(0, readAt(0, 2))
	mustTell(t, a, ok, api.Answer{Tail: 3, Value: []byte("late")}, "9.3: a late one is done")
}

// TestLateIsNewMemory, and what was handed in is not kept.
func TestLateIsNewMemory(t *testing.T) {
	n := newNet(t, 1)
	room := append([]byte("value"), "spare room"...)
	n.Weather(6, 6)
	n.Call(0, api.Request{Kind: api.RWrite, Value: room[:5]})
	n.Call(0, api.Request{Kind: api.RWrite, At: 1, Value: room[2:9]})
	if string(room) != "valuespare room" {
		t.Fatalf("rule 2: Call changes what is handed in: %s", room)
	}
	spoil(room)
	want := []api.Request{write(0, 0, "value"), write(0, 1, "luespar")}
	mustBeLate(t, n, []int{0, 0}, want, "rule 2: a value that is turned behind the Call")
	first, second := n.Late(), n.Late()
	for i := range first {
		spoil(first[i].Request.Value[:cap(first[i].Request.Value)])
	}
	for i := range first[:cap(first)] {
		first[:cap(first)][i] = Late{Node: 9, Request: seal(9)}
	}
	for i, l := range second {
		if l.Node != 0 || spelled(l.Request) != spelled(want[i]) {
			t.Fatalf("rule 2: a row beside one that was overwritten: %v", l)
		}
	}
	mustBeLate(t, n, []int{0, 0}, want, "rule 2: rows that were overwritten")
	second[0].Request.Value = append(second[0].Request.Value, "more"...)
	if string(second[1].Request.Value) != "luespar" {
		t.Fatal("rule 2: two values share memory")
	}
	held := n.Late()
	mustBe(t, n.Deliver(0), api.OK, "9.3: Deliver")
	mustBe(t, n.Deliver(0), api.OK, "9.3: Deliver")
	for at, r := range want {
		a, ok := n.Look(0, readAt(0, at))
		mustTell(t, a, ok, api.Answer{Tail: 2, Value: r.Value}, "9.3: what is done is what was asked")
		if spelled(held[at].Request) != spelled(r) {
			t.Fatalf("rule 2: a row is changed by Deliver: %v", held[at])
		}
	}
}

func spoil(b []byte) {
	for i := range b {
		b[i] = '#'
	}
}
