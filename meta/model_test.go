package meta

import (
	"fmt"
	"math/rand"
	"strings"
	"testing"

	"headland/api"
	"headland/disk"
	"headland/net"
)

// model does an operation as the chapter's words say it.
func model(n *net.Net, version int, o op) string {
	all := map[int]api.Answer{}
	greatest := 0
	ask := func(r api.Request) int {
		clear(all)
		for to := 0; to < n.Nodes(); to++ {
			a, taken := n.Call(to, r)
			if !taken {
				continue
			}
			if a.Tail > greatest {
				greatest = a.Tail
			}
			if a.Err == api.OK {
				all[to] = a
			}
		}
		return len(all)
	}
	for round := 1; round <= 3; round++ {
		ballot := 4 + o.who + 1
		if round > 1 {
			ballot = 4*(greatest/4+1) + o.who + 1
		}
		if ask(api.Request{Kind: api.RPrepare, Log: version, At: ballot}) < n.Major() {
			continue
		}
		best := 0
		for _, a := range all {
			best = max(best, a.Ballot)
		}
		value := valueOf('_')
		if o.name != 0 {
			value = valueOf(o.name)
		}
		for to := n.Nodes() - 1; to >= 0 && best > 0; to-- {
			if a, is := all[to]; is && a.Ballot == best {
				value = a.Value
			}
		}
		if best == 0 && o.name == 0 {
			return "none"
		}
		if ask(api.Request{Kind: api.RAccept, Log: version, At: ballot, Value: value}) >= n.Major() {
			l, e := modelDecode(value)
			return told(l, e == api.OK, e)
		}
	}
	return "error 40"
}

// both are two nets to which the same is done: one by the package, the other one by the model.
type both struct {
	n, m *net.Net
}

// versions are those that both are asked of.
var versions = []int{1, 3, 16}

func (b both) mustBeSame(t *testing.T, why string, versions ...int) {
	t.Helper()
	if b.n.Ahead() != b.m.Ahead() {
		t.Fatalf("%s: %d numbers wait; not %d", why, b.n.Ahead(), b.m.Ahead())
	}
	if got, want := fmt.Sprint(b.n.Late()), fmt.Sprint(b.m.Late()); got != want {
		t.Fatalf("%s: late are %s; not %s", why, got, want)
	}
	for _, v := range versions {
		if got, want := shown(t, b.n, v), shown(t, b.m, v); got != want {
			t.Fatalf("%s: version %d has %s; not %s", why, v, got, want)
		}
	}
}

// ask does one call of the package, says that it tells what the model tells, and gives that.
func (b both) ask(t *testing.T, version int, o op, why string) string {
	t.Helper()
	got := o.of(b.n, version)
	mustTell(t, got, model(b.m, version, o), fmt.Sprint(why, ": ", o))
	return got
}

// happen does to both nets what happens to nets, and asks their registers for what nobody else asks.
func (b both) happen(t *testing.T, r *rand.Rand, why string) {
	t.Helper()
	to, i := r.Intn(b.n.Nodes()), r.Intn(len(b.n.Late())+1)
	all := losses(1 + r.Intn(9))
	l := all[r.Intn(len(all))]
	same := func(do func(n *net.Net) api.Errno) { mustBe(t, do(b.n), do(b.m), why) }
	switch r.Intn(10) {
	case 0, 1, 2, 3:
		numbers := r.Perm(8)[:r.Intn(8)]
		b.n.Weather(numbers...)
		b.m.Weather(numbers...)
	case 4:
		same(func(n *net.Net) api.Errno { return n.Deliver(i) })
	case 5:
		same(func(n *net.Net) api.Errno { return n.Drop(i) })
	case 6, 7:
		same(func(n *net.Net) api.Errno { return n.Restart(to) })
	case 8:
		if r.Intn(2) == 0 {
			same(func(n *net.Net) api.Errno { return n.Crash(to, l) })
		} else {
			same(func(n *net.Net) api.Errno { return n.Arm(to, l) })
		}
	case 9:
		q := api.Request{Kind: api.RPrepare + r.Intn(2), Log: versions[r.Intn(3)], At: 1 + r.Intn(30)}
		if q.Kind == api.RAccept {
			q.Value = valueOf("abcdefgh_?!#"[r.Intn(12)])
		}
		same(func(n *net.Net) api.Errno {
			a, _ := n.Call(to, q)
			return a.Err
		})
	}
}

func anyOp(r *rand.Rand) op {
	o := op{who: r.Intn(4)}
	if r.Intn(2) == 0 {
		o.name = "abcdefgh"[r.Intn(8)]
	}
	return o
}

func TestModel(t *testing.T) {
	times := map[string]int{}
	for seed := range int64(60) {
		r := rand.New(rand.NewSource(seed))
		nodes := 1 + int(seed%5)
		b := both{newNet(t, nodes), newNet(t, nodes)}
		for i := range 80 {
			why := fmt.Sprint("11: seed ", seed, ", step ", i)
			if r.Intn(5) < 3 {
				b.happen(t, r, why)
			} else {
				got := b.ask(t, versions[r.Intn(3)], anyOp(r), why)
				times[strings.Fields(got)[0]]++
			}
			b.mustBeSame(t, why, versions...)
		}
	}
	if times["a"] < 50 || times["none"] < 50 || times["error"] < 200 {
		t.Errorf("11: too little was told: %v", times)
	}
}

// TestEveryFate of each call of a round, beside each fate of each other one, where registers have this and that.
func TestEveryFate(t *testing.T) {
	const all, step = 5 * 5 * 5 * 5 * 5 * 5, 29 // a step that 5 does not divide goes through every pair of fates
	fates := []int{0, 4, 5, 6, 7}
	for _, rows := range []string{"||", "5:5b|5|6", "9:5c|5:5b|"} {
		for _, o := range []op{{1, 'a'}, {who: 1}} {
			for k := 0; k < all; k += step {
				var weather []int
				for rest := k; len(weather) < 6; rest /= 5 {
					weather = append(weather, fates[rest%5])
				}
				b := both{netOf(t, 3, 12), netOf(t, 3, 12)}
				for _, n := range []*net.Net{b.n, b.m} {
					lay(t, n, rows)
					n.Weather(weather...)
				}
				why := fmt.Sprint("11: ", rows, " in ", weather)
				b.ask(t, version, o, why)
				b.mustBeSame(t, why, version)
			}
		}
	}
}

// TestPowerAtAnyWrite of one node while each call runs: it is told, and kept, what the model says; behind it one chain alone is told.
func TestPowerAtAnyWrite(t *testing.T) {
	for _, rows := range []string{"1|1|1", "5:5b|5|1", "5|1|5:5b", "9:9b|9:5b|1"} {
		for _, spelled := range []string{"propose 0 a", "learn 1"} {
			cuts := 0
			for to := range 3 {
				for after, cut := 1, true; cut; after++ {
					cut = false
					for _, l := range losses(after) {
						cut = powerGoes(t, rows, spelled, to, l) || cut
					}
					if cut {
						cuts++
					}
				}
			}
			if cuts < 6 {
				t.Errorf("11: %s of %s: power went at %d writes alone", spelled, rows, cuts)
			}
		}
	}
}

// powerGoes is whether a node's power goes while an operation runs, if it is armed so.
func powerGoes(t *testing.T, rows, spelled string, to int, l disk.Loss) bool {
	t.Helper()
	why := fmt.Sprint("11: ", spelled, " of ", rows, ", node ", to, ", ", l)
	b := both{laid(t, rows), laid(t, rows)}
	b.n.Arm(to, l)
	b.m.Arm(to, l)
	got := b.ask(t, version, opOf(spelled), why)
	b.mustBeSame(t, why, version)
	gone := !b.n.Up(to)
	restartAll(b.n)
	restartAll(b.m)
	b.mustBeSame(t, why+", opened anew", version)
	again := b.ask(t, version, opOf("propose 2 d"), why+", and once more")
	if got != "none" && got != "error 40" && again != got {
		t.Fatalf("11.4: %s: %s was told, and %s behind it", why, got, again)
	}
	return gone
}

// TestTheSameForTheSame: two runs tell the same.
func TestTheSameForTheSame(t *testing.T) {
	run := func() string {
		r := rand.New(rand.NewSource(11))
		b := both{newNet(t, 5), newNet(t, 5)}
		said := ""
		for range 150 {
			b.happen(t, r, "11: two nets")
			v, o := versions[r.Intn(3)], anyOp(r)
			said += o.of(b.n, v) + o.of(b.m, v) + shown(t, b.n, v) + fmt.Sprint(b.n.Late())
		}
		return said
	}
	if run() != run() {
		t.Error("rule 5: two runs are not the same")
	}
}
