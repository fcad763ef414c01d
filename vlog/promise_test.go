package vlog

import (
	"fmt"
	"math/rand"
	"slices"
	"strings"
	"testing"

	"headland/api"
	"headland/net"
)

// story is servers over one net, and what was told of the one log.
type story struct {
	n      *net.Net
	logs   [4]*Log
	lives  [4]int
	own    [4]int         // by servers: of its Log's positions below this it told itself
	row    map[int]string // by positions: what was appended or read there
	where  map[string]int // by values: the position that its Append told
	chains map[int]string // by versions
	taken  map[int]int    // by loglets: how many values were handed to its Writer
	end    int            // so many first positions were told, by an Append or a Tail
	gone   int            // positions below this may be trimmed

	appends, tails, reads, changes, owners, lates int // how often what was told
}

func newStory(t *testing.T, n *net.Net) *story {
	t.Helper()
	s := &story{n: n, row: map[int]string{}, where: map[string]int{}, chains: map[int]string{0: "@0"}, taken: map[int]int{}}
	for who := range s.logs {
		s.logs[who] = newLog(t, n, who, who == 0)
	}
	return s
}

// anew opens a server anew: what it knew and owned is gone.
func (s *story) anew(t *testing.T, who int) {
	t.Helper()
	s.logs[who] = newLog(t, s.n, who, false)
	s.lives[who]++
	s.own[who] = 0
}

// mustKnowOneChain says that each version has one chain, with the closed segments of the one ahead of it.
func (s *story) mustKnowOneChain(t *testing.T, who int, why string) {
	t.Helper()
	v := s.logs[who]
	l, version := v.Chain(), v.Version()
	spelled := spelledChain(l)
	if was, is := s.chains[version]; is && was != spelled || len(l) != version+1 {
		t.Fatalf("12.7: %s: the chain of version %d is %s; not %s", why, version, spelled, was)
	}
	s.chains[version] = spelled
	for other, was := range s.chains {
		less, more := chainOf(t, was), l
		if other > version {
			less, more = more, less
		}
		if closed := less[:len(less)-1]; !slices.Equal(closed, more[:len(closed)]) {
			t.Fatalf("12.7: %s: the chains %s and %s of versions %d and %d", why, spelled, was, version, other)
		}
	}
}

// stands is a value's place in the one row.
func (s *story) stands(t *testing.T, pos int, value, why string) {
	t.Helper()
	if was, is := s.row[pos]; is && was != value {
		t.Fatalf("12.7: %s: %q at %d, where %q was told", why, value, pos, was)
	}
	if was, is := s.where[value]; is && was != pos {
		t.Fatalf("12.7: %s: %q is told at %d, and at %d ahead", why, value, pos, was)
	}
	s.row[pos], s.where[value] = value, pos
}

func (s *story) append(t *testing.T, who, i int, why string) {
	t.Helper()
	v := s.logs[who]
	value := fmt.Sprint(who, ".", s.lives[who], " ", i)
	owned, log := v.Owns(), v.Chain()[v.Version()].Log
	at, e := v.Append([]byte(value))
	if !owned {
		mustBe(t, e, api.ErrOwner, "12.2: "+why)
		return
	}
	s.taken[log]++
	if e != api.OK {
		return
	}
	if at < s.end {
		t.Fatalf("12.7: %s: an Append told %d, where %d was told", why, at, s.end)
	}
	s.appends++
	s.stands(t, at, value, why)
	s.end = at + 1
	s.own[who] = max(s.own[who], at+1)
}

func (s *story) tail(t *testing.T, who int, why string) bool {
	t.Helper()
	v := s.logs[who]
	tail, e := v.Tail()
	if e != api.OK {
		return false
	}
	last := v.Chain()[v.Version()]
	if tail < s.end || tail > last.Start+s.taken[last.Log] {
		t.Fatalf("12.7: %s: a Tail told %d, where %d was told, and %d were appended behind %d", why, tail, s.end, s.taken[last.Log], last.Start)
	}
	s.tails++
	s.end = tail
	s.own[who] = max(s.own[who], tail)
	return true
}

func (s *story) change(t *testing.T, who int, why string) {
	t.Helper()
	v := s.logs[who]
	e := v.Change()
	if e == api.OK {
		s.changes++
		if !v.Owns() || v.Owner() != who {
			t.Fatalf("12.5: %s: a Change that told OK: %s", why, knows(v))
		}
	}
	if e == api.ErrOwner {
		s.owners++
		if v.Owns() {
			t.Fatalf("12.5: %s: a Change that told ErrOwner: %s", why, knows(v))
		}
	}
}

// read reads a position that the Log told itself.
func (s *story) read(t *testing.T, who, pos int, why string) bool {
	t.Helper()
	b, e := s.logs[who].Read(pos)
	switch {
	case e == api.OK:
		s.reads++
		s.stands(t, pos, string(b), fmt.Sprint(why, ", Read of ", pos))
	case e == api.ErrTrimmed && pos < s.gone || e == api.ErrTimeout:
	default:
		t.Fatalf("12.7: %s: Read of %d, which was told: %d", why, pos, e)
	}
	return e == api.OK
}

// mustHaveOneWriter says that all slots of a loglet, at any node and on their way there, are of one life of one server: the loglet's owner (12.8).
func (s *story) mustHaveOneWriter(t *testing.T, why string) {
	t.Helper()
	writer := map[int]string{0: "0.0"}
	wrote := func(log int, value []byte) {
		who, _, _ := strings.Cut(string(value), " ")
		if was, is := writer[log]; is && was != who {
			t.Fatalf("12.8: %s: %s and %s write to loglet %d", why, was, who, log)
		}
		writer[log] = who
		if chain, is := s.chains[log]; is && !strings.HasSuffix(chain, "@"+who[:1]) {
			t.Fatalf("12.8: %s: %s writes to the last loglet of %s", why, who, chain)
		}
	}
	for to := range s.n.Nodes() {
		for log := range 17 {
			a, _ := s.n.Look(to, api.Request{Kind: api.RState, Log: log})
			for at := a.Trimmed; at < a.Tail; at++ {
				slot, _ := s.n.Look(to, api.Request{Kind: api.RRead, Log: log, At: at})
				wrote(log, slot.Value)
			}
		}
	}
	for _, l := range s.n.Late() {
		if l.Request.Kind == api.RWrite || l.Request.Kind == api.RFix {
			wrote(l.Request.Log, l.Request.Value)
		}
	}
}

// happen is what happens to a net; the rougher, the oftener calls are lost.
func (s *story) happen(r *rand.Rand, rough int) {
	to, late := r.Intn(s.n.Nodes()), len(s.n.Late())
	switch r.Intn(7) {
	case 0, 1:
		for range r.Intn(20) {
			number := r.Intn(8)
			if r.Intn(4) >= rough {
				number = 0
			}
			s.n.Weather(number)
		}
	case 2:
		if s.n.Deliver(r.Intn(late+1)) == api.OK {
			s.lates++
		}
	case 3:
		s.n.Drop(r.Intn(3*late + 1))
	case 4:
		if r.Intn(4) < rough {
			s.n.Crash(to, losses(1)[r.Intn(6)])
		}
	case 5:
		if r.Intn(4) < rough {
			s.n.Arm(to, losses(1 + r.Intn(14))[r.Intn(6)])
		}
	case 6:
		s.n.Restart(to)
	}
}

func (s *story) step(t *testing.T, r *rand.Rand, i, rough int, trims bool, why string) {
	t.Helper()
	who := r.Intn(4)
	switch r.Intn(24) {
	case 0, 1, 2, 3, 4, 5:
		if o := s.logs[who].Owner(); r.Intn(3) > 0 {
			who = o // one that may own
		}
		s.append(t, who, i, why)
	case 6, 7, 8:
		s.tail(t, who, why)
	case 9:
		s.change(t, who, why)
	case 10:
		s.logs[who].Refresh()
	case 11:
		if r.Intn(4) == 0 {
			s.anew(t, who)
		}
	case 12, 13, 14:
		if s.own[who] > 0 {
			s.read(t, who, r.Intn(s.own[who]), why)
		}
	case 15:
		if trims && r.Intn(3) == 0 {
			below := r.Intn(s.own[who] + 1)
			s.gone = max(s.gone, below)
			s.logs[who].Trim(below)
		}
	default:
		s.happen(r, rough)
	}
	s.mustKnowOneChain(t, who, why)
}

// mustStand says, all nodes being up and nothing lost, that each server tells the one row, whole.
func (s *story) mustStand(t *testing.T, why string) {
	t.Helper()
	calm(s.n)
	restartAll(s.n)
	s.mustHaveOneWriter(t, why)
	for who := range s.logs {
		if !s.tail(t, who, why) {
			continue // the last loglet is sealed
		}
		s.mustKnowOneChain(t, who, why)
		for pos := s.gone; pos < s.end; pos++ {
			if !s.read(t, who, pos, why) {
				t.Fatalf("12.7: %s: %d can't be read, all nodes being up", why, pos)
			}
		}
	}
}

// TestOneLog (12.7, 12.8): whatever happens, there is one row, of which all is told, and each loglet has one writer.
func TestOneLog(t *testing.T) {
	t.Parallel()
	var sum story
	for seed := range int64(200) {
		r := rand.New(rand.NewSource(seed))
		s := newStory(t, netOf(t, 1+int(seed%5), 160))
		rough, trims := r.Intn(5), seed%4 == 0
		for i := range 140 {
			why := fmt.Sprint("seed ", seed, ", step ", i)
			s.step(t, r, i, rough, trims, why)
			if i%10 == 0 {
				s.mustHaveOneWriter(t, why)
			}
			if i%70 == 69 {
				s.mustStand(t, why)
			}
		}
		deliverAll(s.n)
		s.mustStand(t, fmt.Sprint("seed ", seed, ", behind all that was late"))
		sum.appends, sum.tails, sum.reads = sum.appends+s.appends, sum.tails+s.tails, sum.reads+s.reads
		sum.changes, sum.lates = sum.changes+s.changes, sum.lates+s.lates
	}
	if sum.appends < 2000 || sum.tails < 1000 || sum.reads < 5000 || sum.changes < 400 || sum.lates < 300 {
		t.Errorf("12.7: too little was told: %d, %d, %d, %d, %d", sum.appends, sum.tails, sum.reads, sum.changes, sum.lates)
	}
}

// astray are fates of an operation's calls: some go astray here and there, or all from one on, or one alone.
func astray(r *rand.Rand) []int {
	l := make([]int, r.Intn(26))
	switch r.Intn(3) {
	case 0:
		for i := range l {
			if r.Intn(4) == 0 {
				l[i] = 4 + r.Intn(4)
			}
		}
	case 1:
		for range 40 {
			l = append(l, 4+r.Intn(3))
		}
	case 2:
		l = append(l[:len(l)/3], 4+r.Intn(3))
	}
	return l
}

// TestManyChanges: servers that take over from each other at once, whose calls go astray halfway.
func TestManyChanges(t *testing.T) {
	t.Parallel()
	changes := 0
	for seed := range int64(240) {
		r := rand.New(rand.NewSource(seed))
		s := newStory(t, netOf(t, 3, 64))
		for i := range 14 {
			why := fmt.Sprint("seed ", seed, ", step ", i)
			who := r.Intn(4)
			s.n.Weather(astray(r)...)
			switch r.Intn(6) {
			case 0:
				s.n.Deliver(r.Intn(len(s.n.Late()) + 1))
			case 1:
				if r.Intn(3) == 0 {
					s.anew(t, who)
				}
				s.tail(t, who, why)
			default:
				s.change(t, who, why)
			}
			calm(s.n)
			s.mustKnowOneChain(t, who, why)
			if o := s.logs[who].Owner(); s.logs[o].Owns() {
				s.n.Weather(r.Perm(8)[:r.Intn(4)]...)
				s.append(t, o, i, why)
			}
		}
		s.mustStand(t, fmt.Sprint("seed ", seed, ", at the end"))
		deliverAll(s.n)
		s.mustStand(t, fmt.Sprint("seed ", seed, ", behind all that was late"))
		changes += s.changes
	}
	if changes < 1000 {
		t.Errorf("12.5: too little was told: %d", changes)
	}
}

// TestTwoChanges: of a first server's Change all calls are lost from one on, or that one alone is heard of no more; then of another one's Change each call is lost, and then all that is late comes.
func TestTwoChanges(t *testing.T) {
	t.Parallel()
	owners, elder := 0, 0
	for from := range 21 {
		for lost := range 24 {
			s := newStory(t, netOf(t, 3, 24))
			fate := []int{4, 5, 6}[(from+lost)%3]
			why := fmt.Sprint("calls lost from ", from, " on, and ", lost, " by ", fate)
			s.append(t, 0, 0, why)
			s.n.Weather(0, 4, 4)
			s.append(t, 0, 1, why)
			first, second := 2, 1
			if lost%4 == 0 {
				second = first // in another life
			}
			s.n.Weather(append(make([]int, from), fate)...)
			s.n.Weather(slices.Repeat([]int{4}, 30)...)
			s.change(t, first, why)
			calm(s.n)
			if second == first {
				s.anew(t, second)
				elder++
			}
			s.n.Weather(append(make([]int, lost), 4)...)
			s.change(t, second, why)
			calm(s.n)
			for i, who := range []int{second, first, 0} {
				s.mustKnowOneChain(t, who, why)
				s.append(t, who, 2+i, why)
				s.tail(t, who, why)
			}
			deliverAll(s.n)
			for i, who := range []int{first, second, 0} {
				s.append(t, who, 5+i, why)
			}
			s.change(t, 3, why)
			s.append(t, 3, 8, why)
			s.mustStand(t, why)
			if s.own[0] < 3 || s.changes == 0 {
				t.Fatalf("12.7: %s: too little was told: %d, %d", why, s.own[0], s.changes)
			}
			owners += s.owners
		}
	}
	if owners < 2 || elder == 0 {
		t.Errorf("12.5: too little was told: %d, %d", owners, elder)
	}
}
