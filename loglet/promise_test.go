package loglet

import (
	"fmt"
	"math/rand"
	"testing"

	"headland/api"
	"headland/net"
)

// story is a loglet that one Writer alone writes, and what was told of it.
type story struct {
	n      *net.Net
	w      *Writer
	row    []string // what Append took, told by Len alone
	stands int      // so many first slots were told, by Append, Tail or Close
	closed bool     // a Close told a tail
	trims  bool     // slots may be trimmed

	appends, tails, closes, reads int // how often OK was told
}

// value is one that there is but once.
func (s *story) value(r *rand.Rand, i int) string {
	if r.Intn(30) == 0 {
		return fmt.Sprint(i, longest)[:1800]
	}
	return fmt.Sprint("v", i)
}

func (s *story) append(t *testing.T, v, why string) {
	t.Helper()
	was := s.w.Len()
	at, e := s.w.Append([]byte(v))
	switch s.w.Len() {
	case was + 1:
		s.row = append(s.row, v)
	case was:
		if e == api.OK {
			t.Fatalf("10.2: %s: OK, and the row is no longer", why)
		}
	default:
		t.Fatalf("10.2: %s: the row was %d long, and is %d", why, was, s.w.Len())
	}
	if e != api.OK {
		return
	}
	if at != was || s.w.Done() != was+1 {
		t.Fatalf("10.2: %s: Append: %d; not %d", why, at, was)
	}
	if s.closed {
		t.Fatalf("10.7: %s: an Append told OK behind a Close", why)
	}
	s.appends++
	s.stands = max(s.stands, at+1)
}

// told is a tail that was told.
func (s *story) told(t *testing.T, tail int, why string) {
	t.Helper()
	if tail < s.stands || tail > len(s.row) {
		t.Fatalf("10.6, 10.7: %s: tail %d, where %d of %d are told", why, tail, s.stands, len(s.row))
	}
	s.stands = tail
}

func (s *story) tail(t *testing.T, why string) {
	t.Helper()
	tail, e := Tail(s.n, log)
	if e != api.OK {
		return
	}
	if s.closed {
		t.Fatalf("10.7: %s: a Tail told %d behind a Close", why, tail)
	}
	s.tails++
	s.told(t, tail, why+": Tail")
}

func (s *story) close(t *testing.T, why string) {
	t.Helper()
	tail, e := Close(s.n, log)
	if e != api.OK {
		return
	}
	if s.closed && tail < s.stands {
		t.Fatalf("10.7: %s: a Close told %d; not %d", why, tail, s.stands)
	}
	s.closes++
	s.closed = true
	s.told(t, tail, why+": Close")
}

func (s *story) read(t *testing.T, at int, why string) {
	t.Helper()
	v, e := Read(s.n, log, at)
	if e == api.OK {
		s.reads++
		if at >= len(s.row) || string(v) != s.row[at] {
			t.Fatalf("10.6: %s: slot %d is %s", why, at, brief(v))
		}
	}
	if e == api.ErrNone && at < s.stands || e == api.ErrTrimmed && !s.trims {
		t.Fatalf("10.6: %s: slot %d of %d: %d", why, at, s.stands, e)
	}
}

// mustBeBeginnings says that each node that is up has a beginning of the row, and how many have what stands.
func (s *story) mustBeBeginnings(t *testing.T, why string) int {
	t.Helper()
	whole := 0
	for to := range s.n.Nodes() {
		a, up := s.n.Look(to, api.Request{Kind: api.RState, Log: log})
		if a.Tail > len(s.row) {
			t.Fatalf("10.6: %s: node %d has %d slots, of a row of %d", why, to, a.Tail, len(s.row))
		}
		for at := a.Trimmed; at < a.Tail; at++ {
			if v, _ := s.n.Look(to, api.Request{Kind: api.RRead, Log: log, At: at}); string(v.Value) != s.row[at] {
				t.Fatalf("10.6: %s: node %d has %s at %d; not %s", why, to, brief(v.Value), at, brief([]byte(s.row[at])))
			}
		}
		if up && a.Tail >= s.stands {
			whole++
		}
	}
	return whole
}

// mustStand says, all nodes being up, that a majority has what was told.
func (s *story) mustStand(t *testing.T, why string) {
	t.Helper()
	if whole := s.mustBeBeginnings(t, why); whole < s.n.Major() {
		t.Fatalf("10.6, 10.7: %s: %d slots were told, and %d nodes have them", why, s.stands, whole)
	}
}

// happen is what happens to a net; the rougher, the oftener calls are lost.
func (s *story) happen(r *rand.Rand, rough int) {
	to, late := r.Intn(s.n.Nodes()), len(s.n.Late())
	switch r.Intn(6) {
	case 0:
		for range r.Intn(12) {
			number := r.Intn(8)
			if r.Intn(4) >= rough {
				number = 0
			}
			s.n.Weather(number)
		}
	case 1:
		s.n.Deliver(r.Intn(late + 1))
	case 2:
		s.n.Drop(r.Intn(3*late + 1))
	case 3:
		if r.Intn(4) < rough {
			s.n.Crash(to, losses(1)[r.Intn(6)])
		}
	case 4:
		if r.Intn(4) < rough {
			s.n.Arm(to, losses(1 + r.Intn(12))[r.Intn(6)])
		}
	case 5:
		s.n.Restart(to)
	}
}

func (s *story) step(t *testing.T, r *rand.Rand, i, rough int, why string) {
	t.Helper()
	switch r.Intn(16) {
	case 0, 1, 2, 3:
		s.append(t, s.value(r, i), why)
	case 4:
		s.w.Push()
	case 5, 6:
		s.tail(t, why)
	case 7:
		if r.Intn(8) == 0 {
			s.close(t, why)
		}
	case 8:
		s.read(t, r.Intn(len(s.row)+2), why)
	case 9:
		if s.trims && r.Intn(3) == 0 {
			Trim(s.n, log, r.Intn(s.stands+1))
		}
	default:
		s.happen(r, rough)
	}
}

// TestOneLog (10.6, 10.7): whatever happens, all nodes have a beginning of one row, and what was told stands.
func TestOneLog(t *testing.T) {
	var sum story
	for seed := range int64(150) {
		r := rand.New(rand.NewSource(seed))
		n := netOf(t, 1+int(seed%5), 60+20*int(seed%3))
		s := &story{n: n, w: newWriter(t, n), trims: seed%4 == 0}
		rough := r.Intn(5)
		for i := range 200 {
			why := fmt.Sprint("seed ", seed, ", step ", i)
			s.step(t, r, i, rough, why)
			if i%40 == 39 {
				restartAll(n)
				s.mustStand(t, why)
			} else if i%5 == 0 {
				s.mustBeBeginnings(t, why)
			}
		}
		deliverAll(n)
		restartAll(n)
		s.mustStand(t, fmt.Sprint("seed ", seed, ", at the end"))
		sum.appends, sum.tails, sum.closes, sum.reads = sum.appends+s.appends, sum.tails+s.tails, sum.closes+s.closes, sum.reads+s.reads
	}
	if sum.appends < 1000 || sum.tails < 200 || sum.closes < 50 || sum.reads < 100 {
		t.Errorf("10.6: too little was told: %d, %d, %d, %d", sum.appends, sum.tails, sum.closes, sum.reads)
	}
}

// TestEveryWeatherOfAFew: three calls one behind the other, of each of which each node's first call goes each way.
func TestEveryWeatherOfAFew(t *testing.T) {
	fates := []int{0, 4, 5, 6}
	weather := func(k int) []int { return []int{fates[k%4], fates[k/4%4], fates[k/16]} }
	for first := range 64 {
		for second := range 64 {
			n := netOf(t, 3, 24)
			s := &story{n: n, w: newWriter(t, n)}
			why := fmt.Sprint("weather ", weather(first), ", ", weather(second))
			n.Weather(weather(first)...)
			s.append(t, "a", why)
			n.Weather(weather(second)...)
			if (first+second)%2 == 0 {
				s.close(t, why)
			} else {
				s.append(t, "b", why)
				s.tail(t, why)
			}
			for n.Ahead() > 0 {
				n.Fate()
			}
			s.mustBeBeginnings(t, why)
			deliverAll(n)
			s.mustStand(t, why)
			s.append(t, "c", why+", and again")
			s.close(t, why+", and again")
			s.append(t, "d", why+", and again")
			s.tail(t, why+", and again")
			s.mustStand(t, why)
			if !s.closed {
				t.Fatalf("10.4: %s: without weather it is closed", why)
			}
		}
	}
}

// TestLateWrites: a write that comes late, behind others and behind a Close, changes no slot and adds none that is not the row's.
func TestLateWrites(t *testing.T) {
	n := newNet(t, 3)
	w := newWriter(t, n)
	n.Weather(6, 0, 6)
	mustRefuse(t, w, "a", api.ErrTimeout, 1, "10.2: delayed")
	n.Weather(6, 0, 6) // its first Push: delayed once more at node 0
	mustAppend(t, w, "b")
	mustShow(t, n, "|ab|ab", "10.2: node 0 lags behind")
	mustBe(t, n.Deliver(0), api.OK, "9.3: Deliver")
	mustShow(t, n, "a|ab|ab", "10.6: a write that comes late")
	deliverAll(n)
	mustShow(t, n, "a|ab|ab", "10.6: writes that come late and twice")
	mustAppend(t, w, "c")
	mustShow(t, n, "abc|abc|abc", "10.2: behind late writes")
	n.Weather(0, 6, 6)
	mustRefuse(t, w, "d", api.ErrTimeout, 4, "10.2: delayed")
	n.Weather(0, 0, 0, 4, 0, 4) // node 0 has d, but nobody can be helped
	tail, e := Close(n, log)
	mustTell(t, tail, e, 0, api.ErrTimeout, "10.4: Close without help")
	mustShow(t, n, "abcd!|abc!|abc!", "10.4: Close without help")
	deliverAll(n)
	mustShow(t, n, "abcd!|abc!|abc!", "10.6: writes that come behind the seal")
	n.Weather(4)
	tail, e = Close(n, log)
	mustTell(t, tail, e, 3, api.OK, "10.4: Close without the foremost one")
	tail, e = Close(n, log)
	mustTell(t, tail, e, 4, api.OK, "10.4: Close with it")
	mustShow(t, n, "abcd!|abcd!|abcd!", "10.4: Close with it")
	mustBe(t, w.Push(), api.ErrSealed, "10.7: Push behind Close")
	mustStand(t, w, 3, 4, true, "10.7: Push behind Close")
}

// TestPushBehindClose: a node that was not there to be sealed may take what waits; no Append tells OK all the same.
func TestPushBehindClose(t *testing.T) {
	n := newNet(t, 3)
	w := newWriter(t, n)
	n.Weather(0, 4, 4)
	mustRefuse(t, w, "a", api.ErrTimeout, 1, "10.2: at one node")
	n.Weather(0, 0, 4)
	tail, e := Close(n, log)
	mustTell(t, tail, e, 1, api.OK, "10.4: Close")
	mustShow(t, n, "a!|a!|", "10.4: Close")
	n.Weather(4)
	mustRefuse(t, w, "b", api.ErrSealed, 2, "10.7: behind a Close")
	mustStand(t, w, 1, 2, true, "10.7: behind a Close")
	mustShow(t, n, "a!|a!|ab", "10.7: the node that is not sealed takes it")
	tail, e = Tail(n, log)
	mustTell(t, tail, e, 0, api.ErrSealed, "10.7: Tail behind a Close")
	n.Weather(4)
	tail, e = Close(n, log)
	mustTell(t, tail, e, 2, api.OK, "10.7: no later Close tells less")
	mustShow(t, n, "a!|ab!|ab!", "10.7: no later Close tells less")
}

// TestAppendsMemory: what is handed in stays, and is not kept.
func TestAppendsMemory(t *testing.T) {
	n := newNet(t, 3)
	w := newWriter(t, n)
	room := append([]byte("value"), "spare room"...)
	n.Weather(0, 6, 4)
	at, e := w.Append(room[:5])
	mustTell(t, at, e, 0, api.ErrTimeout, "10.2: Append")
	if string(room) != "valuespare room" {
		t.Fatalf("rule 2: Append changes what is handed in: %s", room)
	}
	spoil(room)
	deliverAll(n)
	mustShow(t, n, "(value)|(value)|", "rule 2: a value that was turned behind its Append")
	mustBe(t, w.Push(), api.OK, "10.2: Push")
	mustShow(t, n, "(value)|(value)|(value)", "rule 2: a value that was turned behind its Append")
	for _, v := range [][]byte{nil, {}} {
		if _, e := w.Append(v); e != api.OK {
			t.Errorf("rule 2: Append of nothing: %d", e)
		}
	}
	mustShow(t, n, "(value)()()|(value)()()|(value)()()", "rule 2: nil and empty mean the same")
}

// TestReadsMemory: what is told is new memory.
func TestReadsMemory(t *testing.T) {
	n := newNet(t, 3)
	w := newWriter(t, n)
	n.Weather(0, 0, 4)
	mustAppend(t, w, "value")
	first, e := Read(n, log, 0)
	mustBe(t, e, api.OK, "10.5: Read")
	second, _ := Read(n, log, 0)
	spoil(first)
	if string(second) != "value" {
		t.Errorf("rule 2: two answers share memory: %s", second)
	}
	spoil(second)
	mustRead(t, n, 0, "value", api.OK, "rule 2: what was told is not kept")
	mustAppend(t, w, "b") // node 2 gets all of the row
	mustShow(t, n, "(value)b|(value)b|(value)b", "rule 2: the row is not what Read told")
}

// TestWritersApart: two Writers of one net share nothing but the net.
func TestWritersApart(t *testing.T) {
	n := newNet(t, 3)
	w := newWriter(t, n)
	other, _ := New(n, log+1)
	mustAppend(t, w, "a", "b")
	if other.Len() != 0 || other.Done() != 0 {
		t.Errorf("10.1: Len %d, Done %d", other.Len(), other.Done())
	}
	tail, e := Close(n, log+1)
	mustTell(t, tail, e, 0, api.OK, "10.4: Close of another loglet")
	mustAppend(t, w, "c")
	if at, e := other.Append([]byte("x")); at != 0 || e != api.ErrSealed || !other.Over() {
		t.Errorf("10.2: Append: %d, %d", at, e)
	}
	mustStand(t, w, 3, 3, false, "10.1: two Writers")
	late := newWriter(t, n) // a Writer that begins anew knows nothing
	mustStand(t, late, 0, 0, false, "10.1: a row is in memory alone")
}
