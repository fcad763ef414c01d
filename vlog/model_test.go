package vlog

import (
	"fmt"
	"math/rand"
	"strings"
	"testing"

	"headland/api"
	"headland/disk"
	"headland/loglet"
	"headland/meta"
	"headland/net"
)

// model is a Log as the chapter's words say it, over a net of its own to which the same is done. It keeps each chain that it was told, from the version 0 on.
type model struct {
	n      *net.Net
	who    int
	chains [][]api.Segment
	writes map[int]*loglet.Writer // by versions
}

func newModel(n *net.Net, who int, first bool) *model {
	m := &model{n: n, who: who, chains: [][]api.Segment{{{Log: 0, Start: 0, End: -1, Owner: 0}}}, writes: map[int]*loglet.Writer{}}
	if first {
		m.writes[0], _ = loglet.New(n, 0)
	}
	return m
}

func (m *model) Version() int { return len(m.chains) - 1 }

func (m *model) Chain() []api.Segment { return m.chains[m.Version()] }

func (m *model) last() api.Segment { return m.Chain()[len(m.Chain())-1] }

func (m *model) Owner() int { return m.last().Owner }

func (m *model) Owns() bool { return m.writes[m.Version()] != nil }

func (m *model) Refresh() api.Errno {
	for {
		if m.Version() == 16 {
			return api.OK
		}
		l, is, e := meta.Learn(m.n, m.Version()+1, m.who)
		if e != api.OK {
			return e
		}
		if !is {
			return api.OK
		}
		m.chains = append(m.chains, l)
	}
}

func (m *model) Append(b []byte) (int, api.Errno) {
	w := m.writes[m.Version()]
	if w == nil {
		return 0, api.ErrOwner
	}
	at, e := w.Append(b)
	if e != api.OK {
		return 0, e
	}
	return at + m.last().Start, api.OK
}

func (m *model) Tail() (int, api.Errno) {
	for times := 1; times <= 4; times++ {
		at, e := loglet.Tail(m.n, m.last().Log)
		if e == api.OK {
			return at + m.last().Start, api.OK
		}
		if e != api.ErrSealed {
			return 0, e
		}
		before := m.Version()
		if e := m.Refresh(); e != api.OK {
			return 0, e
		}
		if m.Version() == before {
			return 0, api.ErrSealed
		}
	}
	return 0, api.ErrTimeout
}

func (m *model) Read(pos int) ([]byte, api.Errno) {
	if pos < 0 {
		return nil, api.ErrArg
	}
	for _, s := range m.Chain() {
		if s.Start <= pos && (s.End > pos || s.End == -1) {
			return loglet.Read(m.n, s.Log, pos-s.Start)
		}
	}
	panic("a position that no segment has")
}

func (m *model) Change() api.Errno {
	if e := m.Refresh(); e != api.OK {
		return e
	}
	version := m.Version() + 1
	if version == 17 {
		return api.ErrMany
	}
	tail, e := loglet.Close(m.n, m.last().Log)
	if e != api.OK {
		return e
	}
	var own []api.Segment
	own = append(own, m.Chain()...)
	end := own[len(own)-1].Start + tail
	own[len(own)-1].End = end
	own = append(own, api.Segment{Log: version, Start: end, End: -1, Owner: m.who})
	l, e := meta.Propose(m.n, version, m.who, own)
	if e != api.OK {
		return e
	}
	m.chains = append(m.chains, l)
	if fmt.Sprint(l) != fmt.Sprint(own) {
		return api.ErrOwner
	}
	m.writes[version], _ = loglet.New(m.n, version)
	return api.OK
}

func (m *model) Trim(below int) api.Errno {
	if below < 0 {
		return api.ErrArg
	}
	for _, s := range m.Chain() {
		upTo := below
		if s.End != -1 && s.End < below {
			upTo = s.End
		}
		if s.Start < below {
			if e := loglet.Trim(m.n, s.Log, upTo-s.Start); e != api.OK {
				return e
			}
		}
	}
	return api.OK
}

// both are two nets to which the same is done: one by Logs, the other one by models.
type both struct {
	n, m   *net.Net
	logs   [4]*Log
	models [4]*model
}

func newBoth(t *testing.T, nodes, blocks int) *both {
	t.Helper()
	b := &both{n: netOf(t, nodes, blocks), m: netOf(t, nodes, blocks)}
	for who := range b.logs {
		b.open(t, who, who == 0)
	}
	return b
}

func (b *both) open(t *testing.T, who int, first bool) {
	t.Helper()
	b.logs[who], b.models[who] = newLog(t, b.n, who, first), newModel(b.m, who, first)
}

func (b *both) weather(l ...int) {
	b.n.Weather(l...)
	b.m.Weather(l...)
}

// ask does one operation, says that it tells what the model tells, and gives that.
func (b *both) ask(t *testing.T, who int, do, why string) string {
	t.Helper()
	why = fmt.Sprint(why, ", ", who, " ", do)
	got := told(t, b.logs[who], do)
	mustTell(t, got, told(t, b.models[who], do), why)
	mustKnow(t, b.logs[who], knows(b.models[who]), why)
	return got
}

func (b *both) mustBeSame(t *testing.T, why string, logs ...int) {
	t.Helper()
	if b.n.Ahead() != b.m.Ahead() {
		t.Fatalf("%s: %d numbers wait; not %d", why, b.n.Ahead(), b.m.Ahead())
	}
	if got, want := fmt.Sprint(b.n.Late()), fmt.Sprint(b.m.Late()); got != want {
		t.Fatalf("%s: late are %s; not %s", why, got, want)
	}
	for _, log := range logs {
		mustShow(t, b.n, log, shown(t, b.m, log), why)
	}
}

// happen does to both nets what happens to nets, and asks their nodes for what nobody else asks.
func (b *both) happen(t *testing.T, r *rand.Rand, why string) {
	t.Helper()
	to, i := r.Intn(b.n.Nodes()), r.Intn(len(b.n.Late())+1)
	all := losses(1 + r.Intn(12))
	l := all[r.Intn(len(all))]
	same := func(do func(n *net.Net) api.Errno) { mustBe(t, do(b.n), do(b.m), why) }
	switch r.Intn(10) {
	case 0, 1, 2:
		b.weather(r.Perm(8)[:r.Intn(8)]...)
	case 3:
		same(func(n *net.Net) api.Errno { return n.Deliver(i) })
	case 4:
		same(func(n *net.Net) api.Errno { return n.Drop(i) })
	case 5, 6, 7:
		same(func(n *net.Net) api.Errno { return n.Restart(to) })
	case 8:
		if r.Intn(2) == 0 {
			same(func(n *net.Net) api.Errno { return n.Crash(to, l) })
		} else {
			same(func(n *net.Net) api.Errno { return n.Arm(to, l) })
		}
	case 9:
		q := api.Request{Kind: api.RWrite + r.Intn(3), Log: r.Intn(5), At: r.Intn(4), Value: []byte("?")}
		if q.Kind == api.RSeal && r.Intn(3) > 0 {
			q.Kind = api.RTrim
		}
		if r.Intn(2) == 0 { // a chain of nobody, at one node
			q = api.Request{Kind: api.RAccept, Log: 1 + r.Intn(5), At: 1 + r.Intn(40)}
			q.Value, _ = meta.Encode(chainOf(t, []string{"2@0 @3", "1@0 1@2 @1", "2@0 0@1 1@1 @2", "@3"}[r.Intn(4)]))
		}
		same(func(n *net.Net) api.Errno {
			a, _ := n.Call(to, q)
			return a.Err
		})
	}
}

// anyOp is an operation with a server's position somewhere near those that there are.
func anyOp(r *rand.Rand) string {
	switch r.Intn(14) {
	case 0, 1, 2:
		return "change"
	case 3, 4, 5:
		return "tail"
	case 6, 7:
		return fmt.Sprint("read ", r.Intn(14)-1)
	case 8:
		return fmt.Sprint("trim ", r.Intn(9)-1)
	case 9:
		return "refresh"
	}
	return "append " + string('a'+rune(r.Intn(26)))
}

func TestModel(t *testing.T) {
	t.Parallel()
	times := map[string]int{}
	for seed := range int64(80) {
		r := rand.New(rand.NewSource(seed))
		b := newBoth(t, 1+int(seed%5), 64)
		for i := range 90 {
			why := fmt.Sprint("12: seed ", seed, ", step ", i)
			switch k := r.Intn(20); {
			case k < 7:
				b.happen(t, r, why)
			case k == 7:
				b.open(t, r.Intn(4), false)
			default:
				do := anyOp(r)
				got := b.ask(t, r.Intn(4), do, why)
				times[do[:4]+" "+strings.Fields(got + " .")[0]]++
				if strings.HasPrefix(got, "error") {
					times[do[:4]+" "+got]++
				}
			}
			b.mustBeSame(t, why, 0, 1, 2, 3, 4)
		}
	}
	for _, one := range []string{"chan ok", "chan error 40", "chan error 41", "tail 1", "tail error 30", "tail error 40", "read error 4", "read error 31", "trim ok", "trim error 40", "refr ok", "refr error 40", "appe 1", "appe error 30", "appe error 40", "appe error 41"} {
		if times[one] < 3 {
			t.Errorf("12: too little was told: %q %d times", one, times[one])
		}
	}
}

// TestEveryFate of each call of an operation, beside each fate of each other one.
func TestEveryFate(t *testing.T) {
	t.Parallel()
	const all, step = 5 * 5 * 5 * 5 * 5 * 5 * 5 * 5 * 5, 6199 // a step that 5 does not divide goes through every pair of fates
	for _, do := range []string{"change", "tail", "refresh"} {
		for skip := range 3 { // calls ahead of those whose fates are gone through
			for k := skip; k < all; k += step {
				weather := make([]int, 5*skip)
				for rest := k; len(weather) < 5*skip+9; rest /= 5 {
					weather = append(weather, []int{0, 4, 5, 6, 7}[rest%5])
				}
				b := newBoth(t, 3, 24)
				why := fmt.Sprint("12: in ", weather)
				b.lag(t, why)
				b.weather(weather...)
				b.ask(t, 1, do, why)
				b.mustBeSame(t, why, 0, 1, 2)
			}
		}
	}
}

// lag is a log of two segments. Of the first the server 1 does not know that it is closed; of the second a node lacks a slot.
func (b *both) lag(t *testing.T, why string) {
	t.Helper()
	b.ask(t, 0, "append x", why)
	b.weather(0, 0, 4)
	b.ask(t, 0, "append y", why)
	b.ask(t, 2, "change", why)
	b.weather(4)
	b.ask(t, 2, "append z", why)
	mustShow(t, b.n, 0, "xy!|xy!|xy!", why)
	mustShow(t, b.n, 1, "|z|z", why)
}

// TestPowerAtAnyWrite of one node while each operation runs: it is told, and kept, what the model says; behind it all that was told is told.
func TestPowerAtAnyWrite(t *testing.T) {
	t.Parallel()
	for _, do := range []string{"2 append w", "1 tail", "1 change", "2 change", "1 refresh", "2 trim 3"} {
		cuts := 0
		for to := range 3 {
			for after, cut := 1, true; cut; after++ {
				cut = false
				for i, l := range losses(after) {
					if (i+after+to)%2 == 0 {
						cut = powerGoes(t, do, to, l) || cut
					}
				}
				if cut {
					cuts++
				}
			}
		}
		if cuts < 8 {
			t.Errorf("12: %s: power went at %d writes alone", do, cuts)
		}
	}
}

// powerGoes is whether a node's power goes while an operation runs, if it is armed so.
func powerGoes(t *testing.T, do string, to int, l disk.Loss) bool {
	t.Helper()
	why := fmt.Sprint("12: ", do, ", node ", to, ", ", l)
	who, op := number(t, do[:1]), do[2:]
	b := newBoth(t, 3, 24)
	b.lag(t, why)
	b.n.Arm(to, l)
	b.m.Arm(to, l)
	got := b.ask(t, who, op, why)
	b.mustBeSame(t, why, 0, 1, 2)
	gone := !b.n.Up(to)
	b.n.Arm(to, disk.Loss{})
	b.m.Arm(to, disk.Loss{})
	restartAll(b.n)
	restartAll(b.m)
	b.mustBeSame(t, why+", opened anew", 0, 1, 2)
	tail := "3"
	if op == "append w" && got == "3" {
		tail = "4"
	}
	if again := b.ask(t, 3, "change", why); again != "ok" {
		t.Fatalf("12.5: %s: a Change behind it tells %s", why, again)
	}
	if again := b.ask(t, 0, "tail", why); again != tail && (op != "append w" || again != "4") {
		t.Fatalf("12.7: %s: the tail is %s; not %s", why, again, tail)
	}
	for pos, value := range "xyz" {
		again := b.ask(t, 0, fmt.Sprint("read ", pos), why)
		if again != string(value) && (op != "trim 3" || again != "error 31") {
			t.Fatalf("12.7: %s: %d is %s; not %c", why, pos, again, value)
		}
	}
	return gone
}

// TestTheSameForTheSame: two runs tell the same.
func TestTheSameForTheSame(t *testing.T) {
	run := func() string {
		r := rand.New(rand.NewSource(12))
		b := newBoth(t, 5, 64)
		said := ""
		for range 120 {
			b.happen(t, r, "12: two nets")
			who, do := r.Intn(4), anyOp(r)
			said += told(t, b.logs[who], do) + knows(b.logs[who]) + told(t, b.models[who], do) + shown(t, b.n, 1) + fmt.Sprint(b.n.Late())
		}
		return said
	}
	if run() != run() {
		t.Error("rule 5: two runs are not the same")
	}
}
