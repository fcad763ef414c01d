package net

import (
	"fmt"
	"math"
	"slices"
	"testing"

	"headland/api"
	"headland/disk"
)

// fated are numbers and their fates.
func fated() map[int]int {
	return map[int]int{
		0: api.Done, 1: api.Done, 2: api.Done, 3: api.Done, 4: api.LostRequest, 5: api.LostReply, 6: api.Delayed, 7: api.Twice,
		8: api.Done, 9: api.Done, 10: api.Done, 11: api.Done, 12: api.LostRequest, 13: api.LostReply, 14: api.Delayed, 15: api.Twice, 16: api.Done,
		-1: api.Twice, -2: api.Delayed, -3: api.LostReply, -4: api.LostRequest, -5: api.Done, -6: api.Done, -7: api.Done, -8: api.Done,
		-9: api.Twice, -10: api.Delayed, -11: api.LostReply, -12: api.LostRequest, -13: api.Done, -16: api.Done, -17: api.Twice,
		math.MaxInt: api.Twice, math.MaxInt - 1: api.Delayed, math.MaxInt - 4: api.Done, math.MinInt: api.Done, math.MinInt + 4: api.LostRequest, math.MinInt + 7: api.Twice,
		1<<32 + 5: api.LostReply, -1<<32 - 2: api.Delayed, 804: api.LostRequest, -804: api.LostRequest,
	}
}

func TestFate(t *testing.T) {
	if api.Done != 0 || api.LostRequest != 1 || api.LostReply != 2 || api.Delayed != 3 || api.Twice != 4 {
		t.Fatal("9.2: the fates' numbers")
	}
	n := newNet(t, 1)
	for range 3 {
		if got := n.Fate(); got != api.Done {
			t.Fatalf("9.2: Fate where none waits: %d", got)
		}
		mustWait(t, n, 0, "9.2: Fate where none waits")
	}
	for number, want := range fated() {
		n.Weather(number)
		mustWait(t, n, 1, "9.2: Weather")
		if got := n.Fate(); got != want {
			t.Errorf("9.2: the fate of %d: %d; not %d", number, got, want)
		}
		mustWait(t, n, 0, "9.2: Fate")
	}
	if got := n.Fate(); got != api.Done {
		t.Errorf("9.2: Fate where none waits any more: %d", got)
	}
}

func TestWeather(t *testing.T) {
	n := newNet(t, 1)
	n.Weather()
	mustWait(t, n, 0, "9.2: Weather of no number")
	n.Weather(nil...)
	mustWait(t, n, 0, "9.2: Weather of no list")
	n.Weather(4, 5)
	n.Weather()
	n.Weather(6)
	mustWait(t, n, 3, "9.2: Weather twice")
	mustTake(t, n, api.LostRequest)
	mustWait(t, n, 2, "9.2: one is taken")
	n.Weather(7, 0, 4)
	mustWait(t, n, 5, "9.2: Weather behind a Fate")
	mustTake(t, n, api.LostReply, api.Delayed, api.Twice, api.Done)
	mustWait(t, n, 1, "9.2: one waits still")
	n.Weather(5)
	mustTake(t, n, api.LostRequest, api.LostReply, api.Done, api.Done)
	mustWait(t, n, 0, "9.2: none waits")
	n.Weather(0)
	mustWait(t, n, 1, "9.2: a number that lets a call be done waits too")
	mustTake(t, n, api.Done)
	mustWait(t, n, 0, "9.2: none waits")
}

func mustTake(t *testing.T, n *Net, l ...int) {
	t.Helper()
	for i, want := range l {
		if got := n.Fate(); got != want {
			t.Fatalf("9.2: Fate %d: %d; not %d", i, got, want)
		}
	}
}

// TestMuchWeather: numbers are taken in the order in which they came, however many wait.
func TestMuchWeather(t *testing.T) {
	n := newNet(t, 1)
	var l []int
	for i := range 100000 {
		l = append(l, i*i/7)
	}
	n.Weather(l[:60000]...)
	n.Weather(l[60000:]...)
	for i, number := range l {
		mustWait(t, n, len(l)-i, "9.2: much weather")
		want := max(number%8-3, 0)
		if got := n.Fate(); got != want {
			t.Fatalf("9.2: Fate %d: %d; not %d", i, got, want)
		}
	}
	mustWait(t, n, 0, "9.2: much weather")
}

// TestCallOfNoNode takes no Fate and does nothing.
func TestCallOfNoNode(t *testing.T) {
	for _, nodes := range []int{1, 3, 5} {
		n := laidOn(t, newNet(t, nodes), before()...)
		n.Weather(0, 4, 5, 6, 7)
		was := images(t, n)
		for _, to := range append([]int{nodes}, outside...) {
			for _, r := range some() {
				a, ok := n.Call(to, r)
				mustTellNone(t, a, ok, fmt.Sprint("9.2: Call of node ", to, " of ", nodes))
			}
		}
		mustWait(t, n, 5, "9.2: Call of no node")
		mustBeLate(t, n, nil, nil, "9.2: Call of no node")
		mustStay(t, n, was, "9.2: Call of no node")
		mustTake(t, n, api.Done, api.LostRequest, api.LostReply, api.Delayed, api.Twice)
	}
}

// doings is how often a request of a fate is done at once.
func doings(fate int) int { return []int{1, 0, 1, 0, 2}[fate] }

// TestEachFateOfEachRequest, at a node that is up.
func TestEachFateOfEachRequest(t *testing.T) {
	for _, r := range some() {
		for _, number := range []int{0, 1, 2, 3, 4, 5, 6, 7, 8, 15, -1, -2, -3, -4, -8} {
			fate := fated()[number]
			why := fmt.Sprintf("9.2: %s, fate %d", spelled(r), fate)
			n, w := laidOn(t, newNet(t, 2), before()...), newTwin(t, before()...)
			was := images(t, n)
			n.Weather(number, 7)
			a, ok := n.Call(1, r)
			var last api.Answer
			for range doings(fate) {
				last = w.node.Do(r)
			}
			if fate == api.Done || fate == api.Twice {
				mustTell(t, a, ok, last, why)
			} else {
				mustTellNone(t, a, ok, why)
			}
			mustWait(t, n, 1, why)
			mustBeTwin(t, n, 1, w, why)
			if images(t, n)[0] != was[0] {
				t.Fatalf("%s: another node is changed", why)
			}
			mustBeUp(t, n, []bool{true, true}, why)
			if fate == api.Delayed {
				mustBeLate(t, n, []int{1}, []api.Request{r}, why)
			} else {
				mustBeLate(t, n, nil, nil, why)
			}
		}
	}
}

// TestEachFateOfANodeThatIsNotUp: it does nothing, but the Fate is taken, and what is delayed is late.
func TestEachFateOfANodeThatIsNotUp(t *testing.T) {
	for _, r := range some() {
		for number := range 8 {
			why := fmt.Sprintf("9.2: %s, number %d, not up", spelled(r), number)
			n := laidOn(t, newNet(t, 2), before()...)
			was := images(t, n)
			mustBe(t, n.Crash(1, disk.Loss{}), api.OK, "9.4: Crash")
			n.Weather(number, 7)
			a, ok := n.Call(1, r)
			mustTellNone(t, a, ok, why)
			mustWait(t, n, 1, why)
			if number == 6 {
				mustBeLate(t, n, []int{1}, []api.Request{r}, why)
			} else {
				mustBeLate(t, n, nil, nil, why)
			}
			mustBeUp(t, n, []bool{true, false}, why)
			mustBe(t, n.Restart(1), api.OK, "9.4: Restart")
			mustStay(t, n, was, why)
		}
	}
}

// TestTwice: the second answer is told.
func TestTwice(t *testing.T) {
	for _, c := range []struct {
		ask  api.Request
		want api.Answer
	}{
		{prepare(3, 4), api.Answer{Err: api.ErrOwner, Tail: 4}},
		{prepare(1, 6), api.Answer{Err: api.ErrOwner, Tail: 6, Ballot: 5, Value: []byte("v")}},
		{accept(3, 4, "x"), api.Answer{Tail: 4}},
		{write(1, 2, "x"), api.Answer{Tail: 3}},
		{write(2, 1, "x"), api.Answer{Err: api.ErrSealed, Tail: 1, Sealed: true, Trimmed: 1}},
		{fix(2, 1, "x"), api.Answer{Tail: 2, Sealed: true, Trimmed: 1}},
		{seal(1), api.Answer{Tail: 2, Sealed: true}},
		{trim(1, 2), api.Answer{Tail: 2, Trimmed: 2}},
		{readAt(1, 0), api.Answer{Tail: 2, Value: []byte("a")}},
		{state(2), api.Answer{Tail: 1, Sealed: true, Trimmed: 1}},
		{state(17), api.Answer{Err: api.ErrArg}},
		{write(1, 2, longest+"x"), api.Answer{Err: api.ErrLong}},
	} {
		n := laidOn(t, newNet(t, 1), before()...)
		n.Weather(7)
		a, ok := n.Call(0, c.ask)
		mustTell(t, a, ok, c.want, "9.2: Twice: "+spelled(c.ask))
	}
}

// TestOneFateACall: what waits is taken call by call, whichever node is asked, and what is not taken waits.
func TestOneFateACall(t *testing.T) {
	n := newNet(t, 3)
	n.Weather(0, 5, 4, 7, 6, 3)
	var told []bool
	var tails []int
	for i := range 6 {
		_, ok := n.Call(i%3, write(i/3, 0, "v"))
		told = append(told, ok)
		mustWait(t, n, 5-i, "9.2: one Fate a Call")
	}
	for i := range 6 {
		a, _ := n.Look(i%3, state(i/3))
		tails = append(tails, a.Tail)
	}
	if !slices.Equal(told, []bool{true, false, false, true, false, true}) || !slices.Equal(tails, []int{1, 1, 0, 1, 0, 1}) {
		t.Errorf("9.2: told %v, tails %v", told, tails)
	}
	mustBeLate(t, n, []int{1}, []api.Request{write(1, 0, "v")}, "9.2: one Fate a Call")
}

// TestDoneAtMostTwice, and once more for each Deliver. An RAccept of one ballot is one Commit each time it is done.
func TestDoneAtMostTwice(t *testing.T) {
	for number := -8; number < 16; number++ {
		n := newNet(t, 2)
		n.Weather(number)
		n.Call(1, accept(1, 5, "v"))
		want := doings(fated()[number&7])
		if got := commits(t, n, 1); got != want || got > 2 {
			t.Fatalf("9.5: number %d: done %d times; not %d", number, got, want)
		}
		late := len(n.Late())
		for range 3 {
			n.Deliver(0)
			n.Call(0, accept(1, 5, "v"))
		}
		if got := commits(t, n, 1); got != want+late {
			t.Fatalf("9.5: number %d, %d delivered: done %d times; not %d", number, late, got, want+late)
		}
		if got := commits(t, n, 0); got != 3 {
			t.Fatalf("9.5: done %d times; not 3", got)
		}
	}
}
