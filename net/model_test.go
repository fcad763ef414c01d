package net

import (
	"fmt"
	"math/rand"
	"slices"
	"testing"

	"headland/api"
	"headland/disk"
)

// model is a net as the chapter's words say it, of twins that do what is asked.
type model struct {
	twins []*twin
	waits []int
	late  []Late
}

func newModel(t *testing.T, nodes int) *model {
	m := &model{}
	for range nodes {
		m.twins = append(m.twins, newTwin(t))
	}
	return m
}

func (m *model) do(to int, r api.Request) (api.Answer, bool) {
	if m.twins[to].node.Dead() {
		return api.Answer{}, false
	}
	a := m.twins[to].node.Do(r)
	if m.twins[to].node.Dead() {
		return api.Answer{}, false
	}
	return a, true
}

func (m *model) call(to int, r api.Request) (api.Answer, bool) {
	number := 0
	if len(m.waits) > 0 {
		number, m.waits = m.waits[0], m.waits[1:]
	}
	for number < 0 {
		number += 8
	}
	rest := number % 8
	if rest == 4 {
		return api.Answer{}, false
	}
	if rest == 6 {
		if len(m.late) < 64 {
			m.late = append(m.late, Late{to, r})
		}
		return api.Answer{}, false
	}
	a, ok := m.do(to, r)
	if rest == 7 {
		a, ok = m.do(to, r)
	}
	if rest == 5 {
		return api.Answer{}, false
	}
	return a, ok
}

func (m *model) look(to int, r api.Request) (api.Answer, bool) {
	if r.Kind != 4 && r.Kind != 5 {
		return api.Answer{}, false
	}
	return m.do(to, r)
}

func (m *model) ends(i int, deliver bool) api.Errno {
	if i < 0 || i >= len(m.late) {
		return api.ErrNone
	}
	l := m.late[i]
	m.late = slices.Concat(m.late[:i], m.late[i+1:])
	if deliver {
		m.do(l.Node, l.Request)
	}
	return api.OK
}

func (m *model) crash(to int, l disk.Loss) api.Errno {
	if m.twins[to].node.Dead() {
		return api.ErrDown
	}
	m.twins[to].disk.Cut(l)
	return api.OK
}

func (m *model) restart(t *testing.T, to int) api.Errno {
	if !m.twins[to].node.Dead() {
		return api.ErrArg
	}
	m.twins[to].disk.Restart()
	m.twins[to].disk.Arm(disk.Loss{})
	m.twins[to].open(t)
	return api.OK
}

// mustBeSame says all that a net tells of itself.
func (m *model) mustBeSame(t *testing.T, n *Net, why string) {
	t.Helper()
	mustWait(t, n, len(m.waits), why)
	var want []string
	for _, l := range m.late {
		want = append(want, fmt.Sprint(l.Node, " ", spelled(l.Request)))
	}
	mustBeLateAs(t, n, want, why)
	for to, w := range m.twins {
		if n.Up(to) == w.node.Dead() {
			t.Fatalf("%s: node %d is up: %v", why, to, n.Up(to))
		}
	}
}

// mustHoldSame says what the disks of those that are up hold.
func (m *model) mustHoldSame(t *testing.T, n *Net, why string) {
	t.Helper()
	for to, w := range m.twins {
		if n.Up(to) {
			mustBeTwin(t, n, to, w, why)
		}
	}
}

// someRequest is one of few loglets with low numbers, so that it is often done.
func someRequest(r *rand.Rand) api.Request {
	return api.Request{Kind: r.Intn(10), Log: r.Intn(4) - r.Intn(2), At: r.Intn(6), Value: []byte{byte('a' + r.Intn(26))}}
}

// step does one thing to both, and holds what they tell against each other.
func (m *model) step(t *testing.T, n *Net, r *rand.Rand, why string) {
	t.Helper()
	to, i := r.Intn(len(m.twins)), r.Intn(len(m.late)+3)-1
	all := losses(1 + r.Intn(8))
	l := all[r.Intn(len(all))]
	switch r.Intn(16) {
	case 0, 1, 2:
		numbers := []int{r.Intn(8), -r.Intn(100), r.Intn(1000)}[:r.Intn(4)]
		n.Weather(numbers...)
		m.waits = slices.Concat(m.waits, numbers)
	case 3, 4:
		mustBe(t, n.Deliver(i), m.ends(i, true), why+": Deliver")
	case 5:
		mustBe(t, n.Drop(i), m.ends(i, false), why+": Drop")
	case 6:
		if r.Intn(3) == 0 {
			mustBe(t, n.Crash(to, l), m.crash(to, l), why+": Crash")
		}
	case 7:
		mustBe(t, n.Arm(to, l), api.OK, why+": Arm")
		m.twins[to].disk.Arm(l)
	case 8, 9:
		mustBe(t, n.Restart(to), m.restart(t, to), why+": Restart")
	case 10:
		q := someRequest(r)
		a, ok := n.Look(to, q)
		want, is := m.look(to, q)
		mustTellAs(t, a, ok, want, is, why+": Look, "+spelled(q))
	default:
		q := someRequest(r)
		a, ok := n.Call(to, q)
		want, is := m.call(to, q)
		mustTellAs(t, a, ok, want, is, why+": Call, "+spelled(q))
	}
}

func mustTellAs(t *testing.T, a api.Answer, ok bool, want api.Answer, is bool, why string) {
	t.Helper()
	if got, right := told(a, ok), told(want, is); got != right {
		t.Fatalf("%s: %s; not %s", why, got, right)
	}
}

func TestModel(t *testing.T) {
	for seed := range int64(40) {
		r := rand.New(rand.NewSource(seed))
		nodes := 1 + int(seed%5)
		n, m := newNet(t, nodes), newModel(t, nodes)
		for i := range 300 {
			why := fmt.Sprint("seed ", seed, ", step ", i)
			m.step(t, n, r, why)
			m.mustBeSame(t, n, why)
			if i%10 == 9 {
				m.mustHoldSame(t, n, why)
			}
		}
	}
}

// TestTheSameForTheSame: two nets that are asked the same tell the same, and hold the same bytes.
func TestTheSameForTheSame(t *testing.T) {
	run := func() string {
		r := rand.New(rand.NewSource(9))
		n := newNet(t, 3)
		said := ""
		for i := range 400 {
			n.Weather(r.Intn(9))
			a, ok := n.Call(r.Intn(3), someRequest(r))
			said += told(a, ok)
			if i%7 == 0 {
				said += fmt.Sprint(n.Deliver(r.Intn(3)), n.Drop(r.Intn(5)), n.Arm(r.Intn(3), disk.Loss{After: 1 + r.Intn(90)}), n.Restart(r.Intn(3)))
			}
		}
		return said + fmt.Sprint(images(t, n), n.Late(), n.Ahead())
	}
	if run() != run() {
		t.Error("rule 5: two runs are not the same")
	}
}

// TestNothingButACallAndADeliver turns what a node keeps.
func TestNothingButACallAndADeliver(t *testing.T) {
	n := laidOn(t, newNet(t, 3), before()...)
	was := images(t, n)
	delayed(t, n, 0, changing()...)
	delayed(t, n, 1, changing()...)
	r := rand.New(rand.NewSource(5))
	for range 2000 {
		to := r.Intn(5) - 1
		switch r.Intn(9) {
		case 0:
			n.Weather(r.Intn(8))
		case 1:
			n.Fate()
		case 2:
			n.Crash(to, losses(1)[r.Intn(6)])
		case 3:
			n.Arm(to, losses(1)[r.Intn(6)])
		case 4:
			n.Restart(to)
		case 5:
			n.Look(to, changing()[r.Intn(len(changing()))])
			n.Look(to, readAt(1, r.Intn(3)))
			n.Look(to, state(r.Intn(18)))
		case 6:
			n.Late()[0].Request.Kind = api.RSeal
		case 7:
			n.Ahead()
			n.Up(to)
			n.Nodes()
			n.Major()
		case 8:
			if len(n.Late()) > 2 {
				n.Drop(r.Intn(len(n.Late())))
			}
			n.Drop(99)
			n.Deliver(99)
			n.Call(-1, seal(0))
		}
	}
	for to := range 3 {
		n.Restart(to)
	}
	mustStay(t, n, was, "9.5: nothing was called or delivered")
}

// TestCallsMemory: what is handed in stays and is not kept, what is told is new.
func TestCallsMemory(t *testing.T) {
	for number := range 8 {
		n := newNet(t, 1)
		room := append([]byte("value"), "spare room"...)
		n.Weather(number)
		n.Call(0, api.Request{Kind: api.RWrite, Value: room[:5]})
		n.Look(0, api.Request{Kind: api.RState, Value: room[:5]})
		if string(room) != "valuespare room" {
			t.Fatalf("rule 2: Call changes what is handed in: %s", room)
		}
		spoil(room)
		n.Deliver(0)
		if number == 4 {
			continue
		}
		first, _ := n.Look(0, readAt(0, 0))
		second, _ := n.Call(0, readAt(0, 0))
		spoil(first.Value[:cap(first.Value)])
		mustTell(t, second, true, api.Answer{Tail: 1, Value: []byte("value")}, "rule 2: an answer beside one that was overwritten")
		spoil(second.Value[:cap(second.Value)])
		third, ok := n.Look(0, readAt(0, 0))
		mustTell(t, third, ok, api.Answer{Tail: 1, Value: []byte("value")}, "rule 2: what was handed in and told is not kept")
	}
}

func TestWeathersMemory(t *testing.T) {
	n := newNet(t, 1)
	room := []int{4, 5, 6, 7, 4, 4}
	n.Weather(room[:2]...)
	n.Weather(7)
	n.Weather(room[1:3]...)
	if !slices.Equal(room, []int{4, 5, 6, 7, 4, 4}) {
		t.Fatalf("rule 2: Weather changes what is handed in: %v", room)
	}
	clear(room)
	mustTake(t, n, api.LostRequest, api.LostReply, api.Twice, api.LostReply, api.Delayed)
}
