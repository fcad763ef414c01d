package meta

import (
	"fmt"
	"math/rand"
	"slices"
	"strings"
	"testing"

	"headland/api"
	"headland/disk"
	"headland/net"
)

// story is what was proposed and told over one net, by versions.
type story struct {
	n        *net.Net
	proposed map[int]string // the names
	told     map[int]string // the name; none so far: ""

	learned, nones, timeouts int // how often what was told
}

func newStory(n *net.Net) *story {
	return &story{n: n, proposed: map[int]string{}, told: map[int]string{}}
}

// ask does an operation, and says that one chain alone is told of the version, which somebody proposed.
func (s *story) ask(t *testing.T, version int, o op, why string) {
	t.Helper()
	if o.name != 0 {
		s.proposed[version] += string(o.name)
	}
	got, was := o.of(s.n, version), s.told[version]
	switch {
	case got == "error 40":
		s.timeouts++
	case got == "none" && o.name == 0:
		s.nones++
		if was != "" {
			t.Fatalf("11.4: %s: %s was told of version %d, and none behind it", why, was, version)
		}
	case len(got) > 1:
		t.Fatalf("11.4: %s: %v of version %d tells %s", why, o, version, got)
	case was != "" && got != was:
		t.Fatalf("11.4: %s: %s was told of version %d, and %s behind it", why, was, version, got)
	case !strings.Contains(s.proposed[version], got):
		t.Fatalf("11.4: %s: %s is told of version %d, of which nobody proposed it", why, got, version)
	default:
		s.learned++
		s.told[version] = got
	}
}

// mustStand says, all nodes being up and nothing lost, that what was told is told.
func (s *story) mustStand(t *testing.T, why string) {
	t.Helper()
	drained(s.n)
	restartAll(s.n)
	for _, v := range versions {
		for who := range 4 {
			l, is, e := Learn(s.n, v, who)
			if e != api.OK {
				t.Fatalf("11.4: %s: Learn without weather: error %d", why, e)
			}
			if was := s.told[v]; was != "" && told(l, is, e) != was {
				t.Fatalf("11.4: %s: version %d is %s; not %s", why, v, told(l, is, e), was)
			}
			if is {
				s.told[v] = told(l, is, e)
			}
		}
	}
}

// happen is what happens to a net; the rougher, the oftener calls are lost.
func (s *story) happen(r *rand.Rand, rough int) {
	to, late := r.Intn(s.n.Nodes()), len(s.n.Late())
	switch r.Intn(7) {
	case 0, 1:
		for range r.Intn(20) {
			number := r.Intn(8)
			if r.Intn(4) >= rough {
				number = 0
			}
			s.n.Weather(number)
		}
	case 2:
		s.n.Deliver(r.Intn(late + 1))
	case 3:
		s.n.Drop(r.Intn(3*late + 1))
	case 4:
		if r.Intn(4) < rough {
			s.n.Crash(to, losses(1)[r.Intn(6)])
		}
	case 5:
		if r.Intn(4) < rough {
			s.n.Arm(to, losses(1 + r.Intn(12))[r.Intn(6)])
		}
	case 6:
		s.n.Restart(to)
	}
}

// TestOneChain (11.4): whatever happens, one chain is told of a version, for ever.
func TestOneChain(t *testing.T) {
	learned, nones, timeouts := 0, 0, 0
	for seed := range int64(150) {
		r := rand.New(rand.NewSource(seed))
		s := newStory(newNet(t, 1+int(seed%5)))
		rough := r.Intn(5)
		for i := range 60 {
			why := fmt.Sprint("seed ", seed, ", step ", i)
			if r.Intn(2) == 0 {
				s.happen(r, rough)
				continue
			}
			o := anyOp(r)
			if o.name != 0 {
				o.name = 'a' + byte(r.Intn(26))
			}
			s.ask(t, versions[r.Intn(3)], o, why)
		}
		s.mustStand(t, fmt.Sprint("seed ", seed, ", at the end"))
		deliverAll(s.n)
		s.mustStand(t, fmt.Sprint("seed ", seed, ", behind all that was late"))
		learned, nones, timeouts = learned+s.learned, nones+s.nones, timeouts+s.timeouts
	}
	if learned < 800 || nones < 100 || timeouts < 200 {
		t.Errorf("11.4: too little was told: %d, %d, %d", learned, nones, timeouts)
	}
}

// TestEveryWeatherOfAFew: two proposals, of which the first one's calls go each way, and then all that is late comes, in order or from the end on.
func TestEveryWeatherOfAFew(t *testing.T) {
	fates := []int{0, 4, 5, 6}
	weather := func(k, calls int) []int {
		var l []int
		for ; len(l) < calls; k /= 4 {
			l = append(l, fates[k%4])
		}
		return l
	}
	for k := 0; k < 4096; k += 3 {
		s := newStory(netOf(t, 3, 12))
		first, second := weather(k, 6), weather(k*37+k/11, 6)
		why := fmt.Sprint("weather ", first, ", ", second)
		lost := slices.Repeat([]int{4}, 12) // the rounds behind the first one come to nothing
		s.n.Weather(append(first, lost...)...)
		s.ask(t, version, op{k % 4, 'a'}, why)
		drained(s.n)
		s.n.Weather(append(second, lost...)...)
		s.ask(t, version, op{k / 4 % 4, 'b'}, why)
		drained(s.n)
		for late := len(s.n.Late()); late > 0; late-- {
			s.n.Deliver((late - 1) * (k % 2))
			if late%3 == 0 {
				s.ask(t, version, op{who: late / 3 % 4}, why)
			}
		}
		s.ask(t, version, op{2, 'c'}, why)
		s.ask(t, version, op{who: 3}, why)
		if s.told[version] == "" {
			t.Fatalf("11.2: %s: without weather a chain is decided", why)
		}
	}
}

// lateAccepts is a net over which a proposal's accepts are late, and its later rounds came to nothing.
func lateAccepts(t *testing.T, spelled string) *net.Net {
	t.Helper()
	n := newNet(t, 3)
	n.Weather(0, 0, 0, 6, 6, 6)
	n.Weather(slices.Repeat([]int{4}, 6)...)
	mustTell(t, opOf(spelled).of(n, version), "error 40", "11.2: all accepts are late")
	return n
}

// TestLateRequests: what comes late brings no other chain than the one that was told.
func TestLateRequests(t *testing.T) {
	n := lateAccepts(t, "propose 0 a")
	mustTell(t, opOf("propose 1 b").of(n, version), "b", "11.2: another one is quicker")
	deliverAll(n)
	mustShow(t, n, "6:6b|6:6b|6:6b", "11.4: accepts of a lesser ballot")
	mustTell(t, opOf("learn 2").of(n, version), "b", "11.4: behind late accepts")

	n = lateAccepts(t, "propose 1 a")
	mustBe(t, n.Deliver(1), api.OK, "9.3: Deliver")
	mustShow(t, n, "6|6:6a|6", "11.4: an accept that came late")
	n.Weather(0, 4) // a server that does not hear of it
	mustTell(t, opOf("propose 2 b").of(n, version), "b", "11.2: another one decides")
	deliverAll(n)
	mustShow(t, n, "7:7b|7:7b|7:7b", "11.4: accepts of a lesser ballot")

	n = lateAccepts(t, "propose 3 a")
	mustTell(t, opOf("learn 2").of(n, version), "none", "11.3: nothing is decided so far")
	deliverAll(n)
	mustShow(t, n, "15|15|15", "11.4: accepts behind a greater promise")
	mustTell(t, opOf("propose 0 b").of(n, version), "b", "11.4: what was late is over")

	n = newNet(t, 3)
	n.Weather(6, 6, 6)
	mustTell(t, opOf("propose 0 a").of(n, version), "a", "11.2: the first round's prepares are late")
	mustShow(t, n, "5:5a|5:5a|5:5a", "11.2: the first round's prepares are late")
	deliverAll(n)
	mustShow(t, n, "5:5a|5:5a|5:5a", "11.4: prepares that come late")
	mustTell(t, opOf("propose 1 b").of(n, version), "a", "11.4: behind prepares that come late")
}

// TestPowerBetween: what was told is told by nodes that are opened anew.
func TestPowerBetween(t *testing.T) {
	for _, l := range losses(1) {
		for first := range 3 {
			n := newNet(t, 3)
			mustTell(t, opOf("propose 0 a").of(n, version), "a", "11.2: Propose")
			for to := range 3 {
				mustBe(t, n.Crash(to, l), api.OK, "9.4: Crash")
			}
			mustTell(t, opOf("learn 1").of(n, version), "error 40", "11.3: no node is up")
			mustBe(t, n.Restart(first), api.OK, "9.4: Restart")
			mustTell(t, opOf("propose 1 b").of(n, version), "error 40", "11.2: one node is up")
			mustBe(t, n.Restart((first+1)%3), api.OK, "9.4: Restart")
			mustTell(t, opOf("propose 1 b").of(n, version), "a", "11.4: behind a loss of power")
			mustTell(t, opOf("learn 2").of(n, version), "a", "11.4: behind a loss of power")
		}
	}
}

// TestPowerOfAllAtAnyWrite: a proposal that was under way is told ever after, or never was.
func TestPowerOfAllAtAnyWrite(t *testing.T) {
	for after := 1; after <= 14; after++ {
		for _, l := range losses(after) {
			s := newStory(newNet(t, 3))
			for to := range 3 {
				s.n.Arm(to, disk.Loss{After: l.After + to%2, Keep: l.Keep, Torn: l.Torn, Cut: l.Cut})
			}
			why := fmt.Sprint("all nodes' power, ", l)
			s.ask(t, version, op{0, 'a'}, why)
			restartAll(s.n)
			s.ask(t, version, op{who: 1}, why)
			s.ask(t, version, op{2, 'b'}, why)
			s.ask(t, version, op{0, 'c'}, why)
			if s.told[version] == "" || s.told[version] == "c" {
				t.Fatalf("11.2: %s: told is %s", why, s.told[version])
			}
		}
	}
}

// TestProposesMemory: what is handed in stays and is not kept.
func TestProposesMemory(t *testing.T) {
	n := newNet(t, 3)
	mark := api.Segment{Log: 9, Start: 9, End: 9, Owner: 9}
	room := append(chain('b'), mark)
	n.Weather(0, 0, 0, 0, 6, 6)
	n.Weather(slices.Repeat([]int{4}, 6)...)
	l, e := Propose(n, version, 0, room[:2])
	mustTell(t, told(l, e == api.OK, e), "error 40", "11.2: Propose")
	if !slices.Equal(room, append(chain('b'), mark)) {
		t.Fatalf("rule 2: Propose turns what is handed in: %v", room)
	}
	spoil(room)
	deliverAll(n)
	mustShow(t, n, "5:5b|5:5b|5:5b", "rule 2: segments that were turned behind a Propose")
	mustTell(t, opOf("learn 1").of(n, version), "b", "rule 2: segments that were turned behind a Propose")

	own := chain('c')
	l, e = Propose(n, 1, 0, own)
	mustTell(t, told(l, e == api.OK, e), "c", "11.2: Propose")
	spoil(l)
	if !slices.Equal(own, chain('c')) {
		t.Fatalf("rule 2: what Propose tells is what was handed in")
	}
	spoil(own)
	mustTell(t, opOf("learn 1").of(n, 1), "c", "rule 2: what was handed in and told was turned")
}

// TestToldMemory: what is told is new memory.
func TestToldMemory(t *testing.T) {
	n := newNet(t, 3)
	first, e := Propose(n, version, 0, chain('d'))
	mustBe(t, e, api.OK, "11.2: Propose")
	second, e := Propose(n, version, 1, chain('e'))
	mustBe(t, e, api.OK, "11.2: Propose")
	third, _, e := Learn(n, version, 2)
	mustBe(t, e, api.OK, "11.3: Learn")
	fourth, _, e := Learn(n, version, 3)
	mustBe(t, e, api.OK, "11.3: Learn")
	all := [][]api.Segment{first, second, third, fourth}
	for i, l := range all {
		if !slices.Equal(l, chain('d')) {
			t.Fatalf("rule 2: answer %d is %v, behind others that were turned", i, l)
		}
		spoil(l)
	}
	mustTell(t, opOf("learn 0").of(n, version), "d", "rule 2: what was told was turned")
	mustTell(t, opOf("propose 0 f").of(n, version), "d", "rule 2: what was told was turned")
}
