package meta

import (
	"fmt"
	"math"
	"slices"
	"strings"
	"testing"

	"headland/api"
	"headland/disk"
	"headland/net"
)

// bidding is what an operation does where registers have something.
type bidding struct {
	rows    string
	weather []int
	op      string
	told    string
	then    string
	calls   int
}

// mustHold says that it is so, and gives the net.
func (c bidding) mustHold(t *testing.T, promise string) *net.Net {
	t.Helper()
	n := laid(t, c.rows)
	n.Weather(c.weather...)
	why := fmt.Sprint(promise, ": ", c.op, " of ", c.rows, " in ", c.weather)
	mustCall(t, n, c.calls, why, func() { mustTell(t, opOf(c.op).of(n, version), c.told, why) })
	mustShow(t, n, c.then, why)
	return n
}

// same is a row of so many nodes with the same.
func same(record string, nodes int) string {
	return strings.TrimSuffix(strings.Repeat(record+"|", nodes), "|")
}

func TestExamples(t *testing.T) {
	n, e := net.New(3, 64)
	mustBe(t, e, api.OK, "9.1: New")
	mustTell(t, told(Learn(n, 1, 0)), "none", "11: an example")
	mustTell(t, op{2, 'l'}.of(n, 1), "l", "11: an example")
	mustTell(t, op{0, 'm'}.of(n, 1), "l", "11: an example")
	mustTell(t, told(Learn(n, 1, 1)), "l", "11: an example")
}

// TestVersions: each has a chain of its own, from any server.
func TestVersions(t *testing.T) {
	for nodes := 1; nodes <= 5; nodes++ {
		n := netOf(t, nodes, 64)
		for v := 1; v <= 16; v++ {
			mustTell(t, op{who: v % 4}.of(n, v), "none", "11.3: Learn of a version of which nothing is decided")
			mustTell(t, op{v / 4 % 4, 'a' + byte(v)}.of(n, v), string('a'+rune(v)), "11.2: Propose")
		}
		for v := 16; v >= 1; v-- {
			for who := range 4 {
				mustTell(t, op{who: who}.of(n, v), string('a'+rune(v)), "11.3: Learn")
				mustTell(t, op{who, 'z'}.of(n, v), string('a'+rune(v)), "11.2: Propose of another one")
			}
		}
		if got := shown(t, n, 0); got != same("", nodes) {
			t.Errorf("11.2: the version 0 has %s", got)
		}
	}
}

// TestLongChains: whatever chain is proposed is told whole.
func TestLongChains(t *testing.T) {
	n := netOf(t, 3, 64)
	for v, count := range []int{1, 2, 16, 17} {
		l, e := Propose(n, v+1, 0, long(count))
		if e != api.OK || !slices.Equal(l, long(count)) {
			t.Errorf("11.2: Propose: %v, %d; not %v", l, e, long(count))
		}
		l, is, e := Learn(n, v+1, 3)
		if e != api.OK || !is || !slices.Equal(l, long(count)) {
			t.Errorf("11.3: Learn: %v, %v, %d; not %v", l, is, e, long(count))
		}
	}
}

// TestCalls of an operation: which, in which order, of which nodes.
func TestCalls(t *testing.T) {
	for _, c := range []struct {
		rows    string
		weather []int
		op      string
		want    string
	}{
		{"||", nil, "propose 0 a", "0 prepare 5, 1 prepare 5, 2 prepare 5, 0 accept 5 a, 1 accept 5 a, 2 accept 5 a"},
		{"", nil, "propose 3 a", "0 prepare 8, 0 accept 8 a"},
		{"||||", nil, "propose 1 b", "0 prepare 6, 1 prepare 6, 2 prepare 6, 3 prepare 6, 4 prepare 6, 0 accept 6 b, 1 accept 6 b, 2 accept 6 b, 3 accept 6 b, 4 accept 6 b"},
		{"||", nil, "learn 2", "0 prepare 7, 1 prepare 7, 2 prepare 7"},
		{"|5:5c|", nil, "learn 2", "0 prepare 7, 1 prepare 7, 2 prepare 7, 0 accept 7 c, 1 accept 7 c, 2 accept 7 c"},
		{"|5:5c|", nil, "propose 2 a", "0 prepare 7, 1 prepare 7, 2 prepare 7, 0 accept 7 c, 1 accept 7 c, 2 accept 7 c"},
		{"||", []int{0, 4, 4}, "propose 0 a", "0 prepare 5, 1 prepare 5, 2 prepare 5, 0 prepare 9, 1 prepare 9, 2 prepare 9, 0 accept 9 a, 1 accept 9 a, 2 accept 9 a"},
		{"||", []int{4, 4, 4}, "propose 0 a", "0 prepare 5, 1 prepare 5, 2 prepare 5, 0 prepare 5, 1 prepare 5, 2 prepare 5, 0 accept 5 a, 1 accept 5 a, 2 accept 5 a"},
		{"||", []int{0, 0, 0, 0, 4, 4}, "propose 0 a", "0 prepare 5, 1 prepare 5, 2 prepare 5, 0 accept 5 a, 1 accept 5 a, 2 accept 5 a, 0 prepare 9, 1 prepare 9, 2 prepare 9, 0 accept 9 a, 1 accept 9 a, 2 accept 9 a"},
		{"|20:19c|20", []int{4}, "learn 0", "0 prepare 5, 1 prepare 5, 2 prepare 5, 0 prepare 25, 1 prepare 25, 2 prepare 25, 0 accept 25 c, 1 accept 25 c, 2 accept 25 c"},
		{".|9|.", nil, "propose 0 a", "0 prepare 5, 1 prepare 5, 2 prepare 5, 0 prepare 13, 1 prepare 13, 2 prepare 13, 0 prepare 17, 1 prepare 17, 2 prepare 17"},
	} {
		if got := strings.Join(asked(t, c.rows, c.weather, opOf(c.op)), ", "); got != c.want {
			t.Errorf("11.2, 11.3: %s of %s in %v: the calls are\n%s; not\n%s", c.op, c.rows, c.weather, got, c.want)
		}
	}
}

// rounds are the ballots that an operation asks node 0 to promise, of each round one.
func rounds(t *testing.T, rows string, weather []int, o op) string {
	t.Helper()
	var l []string
	for _, call := range asked(t, rows, weather, o) {
		if ballot, is := strings.CutPrefix(call, "0 prepare "); is {
			l = append(l, ballot)
		}
	}
	return strings.Join(l, " ")
}

// TestBallots of the rounds: 4 + who + 1, and then above all that were told.
func TestBallots(t *testing.T) {
	lost := slices.Repeat([]int{4}, 18)
	for _, c := range []struct {
		rows    string
		weather []int
		want    [4]string // by who
	}{
		{"||", nil, [4]string{"5", "6", "7", "8"}},
		{"4|4|4", nil, [4]string{"5", "6", "7", "8"}},
		{"||", lost, [4]string{"5 5 5", "6 6 6", "7 7 7", "8 8 8"}},   // none was told
		{".|.|.", nil, [4]string{"5 5 5", "6 6 6", "7 7 7", "8 8 8"}}, // none was told
		{"~|~|~", nil, [4]string{"5 5 5", "6 6 6", "7 7 7", "8 8 8"}}, // an answer, but without a ballot
		{"||", []int{5, 5, 5, 4, 4, 4, 4, 4, 4}, [4]string{"5 5 5", "6 6 6", "7 7 7", "8 8 8"}},
		// Promised by a Prepare with OK.
		{"||", []int{0, 4, 4, 0, 4, 4, 0, 4, 4}, [4]string{"5 9 13", "6 10 14", "7 11 15", "8 16 24"}},
		{"||", []int{4, 4, 0, 4, 4, 4, 4, 4, 4}, [4]string{"5 9 9", "6 10 10", "7 11 11", "8 16 16"}},
		{"||", []int{4, 4, 4, 4, 0, 4, 4, 4, 4}, [4]string{"5 5 9", "6 6 10", "7 7 11", "8 8 16"}},
		{"||", []int{0, 0, 0, 4, 4, 4}, [4]string{"5 9", "6 10", "7 11", "8 16"}},
		// Promised by one whose answer was lost: told by the refusal of the next round.
		{"||", []int{5, 4, 4, 0, 4, 4}, [4]string{"5 5 9", "6 6 10", "7 7 11", "8 8 16"}},
		// Promised twice over: the second answer is a refusal.
		{"||", []int{7, 7, 7}, [4]string{"5 9", "6 10", "7 11", "8 16"}},
		{"||", []int{7, 7}, [4]string{"5 9", "6 10", "7 11", "8 16"}},
		{"||", []int{7}, [4]string{"5", "6", "7", "8"}},
		// Promised as a Prepare was refused: rounded down to fours, and one four more.
		{"5|5|5", nil, [4]string{"5 9", "6", "7", "8"}},
		{"8|8|", nil, [4]string{"5 13", "6 14", "7 15", "8 16"}},
		{"9|9|", nil, [4]string{"5 13", "6 14", "7 15", "8 16"}},
		{"10|10|", nil, [4]string{"5 13", "6 14", "7 15", "8 16"}},
		{"11|11|", nil, [4]string{"5 13", "6 14", "7 15", "8 16"}},
		{"12|12|", nil, [4]string{"5 17", "6 18", "7 19", "8 20"}},
		{"100:9a|100:9a|", nil, [4]string{"5 105", "6 106", "7 107", "8 108"}},
		{"1000000000000|1000000000000|", nil, [4]string{"5 1000000000005", "6 1000000000006", "7 1000000000007", "8 1000000000008"}},
		// The greatest one, told first, last, or two rounds ago.
		{"30|9|", nil, [4]string{"5 33", "6 34", "7 35", "8 36"}},
		{"9|30|", nil, [4]string{"5 33", "6 34", "7 35", "8 36"}},
		{"|9|30", []int{4}, [4]string{"5 33", "6 34", "7 35", "8 36"}},
		{"30|9|", []int{0, 0, 0, 4, 4, 4, 4, 4, 4}, [4]string{"5 33 33", "6 34 34", "7 35 35", "8 36 36"}},
		{"30|9|9", []int{4, 0, 0, 0, 0, 4}, [4]string{"5 13 33", "6 14 34", "7 15 35", "8 16 36"}},
		// Promised as an Accept was refused, or not heard.
		{"||20", []int{0, 0, 4, 4, 0, 0}, [4]string{"5 25", "6 26", "7 27", "8 28"}},
		{"||20", []int{0, 0, 4, 4, 0, 0, 4, 4, 4, 4, 4, 4}, [4]string{"5 25 25", "6 26 26", "7 27 27", "8 28 28"}},
		{"||20", []int{0, 0, 4, 4, 0, 4}, [4]string{"5 9", "6 10", "7 11", "8 16"}},
		{"||20", []int{0, 0, 4, 4, 0, 5, 4, 0, 4}, [4]string{"5 9 13", "6 10 14", "7 11 15", "8 16 24"}},
		{"||20", []int{0, 0, 4, 4, 0, 7}, [4]string{"5 25", "6 26", "7 27", "8 28"}},
	} {
		for who, want := range c.want {
			if got := rounds(t, c.rows, c.weather, op{who, 'a'}); got != want {
				t.Errorf("11.2: the ballots of Propose of %s in %v by %d are %s; not %s", c.rows, c.weather, who, got, want)
			}
		}
	}
}

// TestBallotsOfLearn are as those of Propose.
func TestBallotsOfLearn(t *testing.T) {
	for _, c := range []struct {
		rows    string
		weather []int
		want    [4]string // by who
	}{
		{"||", nil, [4]string{"5", "6", "7", "8"}},
		{"9|9|", nil, [4]string{"5 13", "6 14", "7 15", "8 16"}},
		{"9:9a|30:1b|", nil, [4]string{"5 33", "6 34", "7 35", "8 36"}},
		{"||", []int{0, 4, 4, 4, 0, 4}, [4]string{"5 9 13", "6 10 14", "7 11 15", "8 16 24"}},
		{"||", []int{4, 4, 4, 4, 4, 4}, [4]string{"5 5 5", "6 6 6", "7 7 7", "8 8 8"}},
		{"1:1a||20", []int{0, 0, 4, 4, 0, 0}, [4]string{"5 25", "6 26", "7 27", "8 28"}},
		{"1:1a||20", []int{0, 0, 4, 4, 0, 4}, [4]string{"5 9", "6 10", "7 11", "8 16"}},
	} {
		for who, want := range c.want {
			if got := rounds(t, c.rows, c.weather, op{who: who}); got != want {
				t.Errorf("11.3: the ballots of Learn of %s in %v by %d are %s; not %s", c.rows, c.weather, who, got, want)
			}
		}
	}
}

// TestGreatestBallots: where no ballot is left above what is promised, no node promises any more.
func TestGreatestBallots(t *testing.T) {
	for _, promised := range []int{math.MaxInt, math.MaxInt - 1, math.MaxInt - 2, math.MaxInt - 3} {
		rows := fmt.Sprintf("%d|%d:3a|", promised, promised)
		for who := range 4 {
			for _, name := range []byte{0, 'a'} {
				n := laid(t, rows)
				o := op{who, name}
				mustCall(t, n, 9, "11.2: the greatest ballot", func() { mustTell(t, o.of(n, version), "error 40", "11.2: the greatest ballot") })
				mustShow(t, n, fmt.Sprintf("%s%d", rows, 5+who), "11.2: the greatest ballot")
			}
		}
	}
	last := math.MaxInt - 3 // 4 (2^61 - 1), of which just three servers have a ballot above it
	for who, want := range []string{"a", "a", "a", "error 40"} {
		n := laid(t, fmt.Sprintf("%d|%d|", last-1, last-1))
		mustTell(t, op{who, 'a'}.of(n, version), want, "11.2: the last ballots")
		if who < 3 {
			mustShow(t, n, same(fmt.Sprintf("%d:%da", last+who+1, last+who+1), 3), "11.2: the last ballots")
		}
	}
}

// patterns are fates of so many calls, each done or lost, and how many are done.
func patterns(nodes, which int) (l []int, done int) {
	for to := range nodes {
		if which>>to&1 == 0 {
			l, done = append(l, 0), done+1
		} else {
			l = append(l, 4)
		}
	}
	return l, done
}

// TestMajorities: a half of a round needs a majority, whichever nodes it is, and asks all nodes whatever is answered.
func TestMajorities(t *testing.T) {
	for nodes := 1; nodes <= 5; nodes++ {
		major := nodes/2 + 1
		for first := range 1 << nodes {
			prepares, promised := patterns(nodes, first)
			for second := range 1 << nodes {
				accepts, accepted := patterns(nodes, second)
				calls, ballot := 2*nodes, 5
				weather := slices.Concat(prepares, accepts)
				switch {
				case promised < major:
					calls, weather = 3*nodes, prepares
					if promised > 0 {
						ballot = 9
					}
				case accepted < major:
					calls, ballot = 4*nodes, 9
				}
				for _, spelled := range []string{"propose 0 a", "learn 0"} {
					rows := same("", nodes)
					if spelled == "learn 0" {
						rows = same("4:4a", nodes)
					}
					n := laid(t, rows)
					n.Weather(weather...)
					why := fmt.Sprint("11.2: ", spelled, " of ", nodes, " nodes in ", weather)
					mustCall(t, n, calls, why, func() { mustTell(t, opOf(spelled).of(n, version), "a", why) })
					if calls > 2*nodes {
						mustShow(t, n, same(fmt.Sprintf("%d:%da", ballot, ballot), nodes), why)
					}
				}
				if promised < major { // the accepts do not come to it
					break
				}
			}
		}
	}
}

func TestPropose(t *testing.T) {
	for _, c := range []bidding{
		{"||", nil, "propose 0 a", "a", "5:5a|5:5a|5:5a", 6},
		{"||", nil, "propose 3 b", "b", "8:8b|8:8b|8:8b", 6},
		{"", nil, "propose 1 c", "c", "6:6c", 2},
		{"|", nil, "propose 2 c", "c", "7:7c|7:7c", 4},
		{"|||", nil, "propose 2 c", "c", "7:7c|7:7c|7:7c|7:7c", 8},
		// Just a majority of promises: who gave none is asked to accept all the same.
		{"||", []int{4}, "propose 0 a", "a", "5:5a|5:5a|5:5a", 6},
		{"||", []int{0, 5}, "propose 0 a", "a", "5:5a|5:5a|5:5a", 6},
		{"||", []int{0, 0, 6}, "propose 0 a", "a", "5:5a|5:5a|5:5a", 6},
		{"7||", nil, "propose 0 a", "a", "7|5:5a|5:5a", 6},
		{"|5|", nil, "propose 0 a", "a", "5:5a|5:5a|5:5a", 6}, // no promise of what is promised, but it is accepted
		{"~||", nil, "propose 0 a", "a", "|5:5a|5:5a", 6},
		{".||", nil, "propose 0 a", "a", ".|5:5a|5:5a", 6},
		// One promise fewer.
		{"||", []int{4, 4}, "propose 0 a", "a", "9:9a|9:9a|9:9a", 9},
		{"||", []int{0, 5, 6}, "propose 0 a", "a", "9:9a|9:9a|9:9a", 9},
		{"|5|5", nil, "propose 0 a", "a", "9:9a|9:9a|9:9a", 9},
		{"|~|~", nil, "propose 0 a", "error 40", "13||", 9},
		{"|.|.", nil, "propose 0 a", "error 40", "13|.|.", 9},
		// Just a majority accepts.
		{"||", []int{0, 0, 0, 4}, "propose 0 a", "a", "5|5:5a|5:5a", 6},
		{"||", []int{0, 0, 0, 0, 5}, "propose 0 a", "a", "5:5a|5:5a|5:5a", 6},
		{"||", []int{0, 0, 0, 0, 0, 6}, "propose 0 a", "a", "5:5a|5:5a|5", 6},
		{"||", []int{4, 0, 0, 0, 4}, "propose 0 a", "a", "5:5a|5|5:5a", 6}, // another one than promised
		{"6||", []int{0, 0, 0, 0, 0, 0}, "propose 0 a", "a", "6|5:5a|5:5a", 6},
		{"||", []int{0, 0, 0, 7, 7, 7}, "propose 0 a", "a", "5:5a|5:5a|5:5a", 6}, // to accept once more is no refusal
		// One fewer accepts.
		{"||", []int{0, 0, 0, 4, 4}, "propose 0 a", "a", "9:9a|9:9a|9:9a", 12},
		{"||", []int{0, 0, 0, 5, 0, 5}, "propose 0 a", "a", "9:9a|9:9a|9:9a", 12},
		{"7||", []int{0, 0, 0, 0, 4}, "propose 0 a", "a", "9:9a|9:9a|9:9a", 12},
		{"7||~", nil, "propose 0 a", "a", "9:9a|9:9a|", 9},
		// All three rounds.
		{"||", slices.Repeat([]int{0, 4, 4}, 2), "propose 0 a", "a", "13:13a|13:13a|13:13a", 12},
		{"||", slices.Repeat([]int{0, 0, 0, 0, 4, 4}, 2), "propose 0 a", "a", "13:13a|13:13a|13:13a", 18},
		{"||", slices.Repeat([]int{0, 0, 0, 4, 4, 4}, 2), "propose 0 a", "a", "13:13a|13:13a|13:13a", 18},
		{"||", slices.Repeat([]int{4}, 9), "propose 0 a", "error 40", "||", 9},
		{"||", slices.Repeat([]int{0, 4, 4}, 3), "propose 0 a", "error 40", "13||", 9},
		{"||", slices.Repeat([]int{5, 5, 4}, 3), "propose 0 a", "error 40", "5|5|", 9},
		{"||", slices.Repeat([]int{0, 0, 0, 4, 4, 4}, 3), "propose 0 a", "error 40", "13|13|13", 18},
		{"||", slices.Repeat([]int{0, 0, 0, 4, 0, 4}, 3), "propose 0 a", "error 40", "13|13:13a|13", 18},
		{"||", slices.Repeat([]int{0, 0, 0, 5, 5, 5}, 3), "propose 0 a", "error 40", "13:13a|13:13a|13:13a", 18},
		{".|.|.", nil, "propose 0 a", "error 40", ".|.|.", 9},
		{"~|~|~", nil, "propose 0 a", "error 40", "||", 9},
		{"", []int{4, 4, 4}, "propose 0 a", "error 40", "", 3},
	} {
		c.mustHold(t, "11.2")
	}
}

// TestWhichValue is brought to the nodes: of those that promise, that of the greatest Ballot.
func TestWhichValue(t *testing.T) {
	for _, c := range []bidding{
		{"5:5b||", nil, "propose 1 a", "b", "6:6b|6:6b|6:6b", 6},
		{"|5:5b|", nil, "propose 1 a", "b", "6:6b|6:6b|6:6b", 6},
		{"||5:5b", nil, "propose 1 a", "b", "6:6b|6:6b|6:6b", 6},
		{"5:5b|5:5b|5:5b", nil, "propose 1 a", "b", "6:6b|6:6b|6:6b", 6},
		{"5:5a||", nil, "propose 1 a", "a", "6:6a|6:6a|6:6a", 6},
		{"1:1b||", nil, "propose 1 a", "b", "6:6b|6:6b|6:6b", 6},
		// The greatest one is told first, last, and between.
		{"6:6c|5:5b|", nil, "propose 2 a", "c", "7:7c|7:7c|7:7c", 6},
		{"5:5b|6:6c|", nil, "propose 2 a", "c", "7:7c|7:7c|7:7c", 6},
		{"|5:5b|6:6c", nil, "propose 2 a", "c", "7:7c|7:7c|7:7c", 6},
		{"6:6c|5:5b|4:4d", nil, "propose 2 a", "c", "7:7c|7:7c|7:7c", 6},
		{"4:4d|6:6c|5:5b", nil, "propose 2 a", "c", "7:7c|7:7c|7:7c", 6},
		{"4:4d|5:5b|6:6c", nil, "propose 2 a", "c", "7:7c|7:7c|7:7c", 6},
		{"2:2d|1:1e|3:3f|5:5b|4:4d", nil, "propose 2 a", "b", same("7:7b", 5), 10},
		{"5:5b|6:6c|5:5b", nil, "propose 2 a", "c", "7:7c|7:7c|7:7c", 6}, // more nodes are no more weight
		// Of several the first.
		{"5:5b|5:5c|", nil, "propose 1 a", "b", "6:6b|6:6b|6:6b", 6},
		{"|5:5c|5:5b", nil, "propose 1 a", "c", "6:6c|6:6c|6:6c", 6},
		{"4:4d|5:5c|5:5b", nil, "propose 1 a", "c", "6:6c|6:6c|6:6c", 6},
		{"5:5b|5:5c|", []int{4}, "propose 1 a", "c", "6:6c|6:6c|6:6c", 6},
		// By what was accepted, not by what is promised.
		{"5:2b|6:1c|", nil, "propose 2 a", "b", "7:7b|7:7b|7:7b", 6},
		{"6:1c|5:2b|", nil, "propose 2 a", "b", "7:7b|7:7b|7:7b", 6},
		{"6|5:1c|", nil, "propose 2 a", "c", "7:7c|7:7c|7:7c", 6},
		// Who was not heard, or refused to promise, tells none.
		{"5:5b||", []int{4}, "propose 1 a", "a", "6:6a|6:6a|6:6a", 6},
		{"5:5b||", []int{5}, "propose 1 a", "a", "6:6a|6:6a|6:6a", 6},
		{"9:5b||", nil, "propose 1 a", "a", "9:5b|6:6a|6:6a", 6},
		{"9:9b||", nil, "propose 1 a", "a", "9:9b|6:6a|6:6a", 6},
		{"|9:5b|5:2c", nil, "propose 1 a", "c", "6:6c|9:5b|6:6c", 6},
		{"9:5b|5:2c|5:3d", nil, "propose 1 a", "d", "9:5b|6:6d|6:6d", 6},
		{"5:5b||", []int{7}, "propose 1 a", "a", "6:6a|6:6a|6:6a", 6}, // promised twice over, it is a refusal
		// Each round asks anew: what one told is not the next one's.
		{"9:5b|9|", nil, "propose 1 a", "b", "14:14b|14:14b|14:14b", 9},
		{"5:5b||", []int{0, 4, 4, 4}, "propose 1 a", "a", "10:10a|10:10a|10:10a", 9},
		{"5:5b||", []int{0, 0, 0, 4, 4, 4, 4}, "propose 1 a", "a", "10:10a|10:10a|10:10a", 12},
		{"5:5b|3:3c|", []int{4, 0, 0, 4, 4, 0, 0, 4}, "propose 1 a", "c", "10:10c|10:10c|10:10c", 12}, // accepted in its own first round
		{"5:5b|3:3c|", []int{4, 0, 0, 4, 4, 4, 0, 0, 4}, "propose 1 a", "b", "10:10b|10:10b|10:10b", 12},
		// What is no chain is decided as it is, and told as Decode tells it.
		{"5:5?||", nil, "propose 1 a", "error 11", "6:6?|6:6?|6:6?", 6},
		{"5:5!||", nil, "propose 1 a", "error 10", "6:6!|6:6!|6:6!", 6},
		{"5:5_||", nil, "propose 1 a", "error 10", "6:6_|6:6_|6:6_", 6},
		{"5:5#||", nil, "propose 1 a", "error 11", "6:6#|6:6#|6:6#", 6},
		{"5:5?||", slices.Repeat([]int{0, 0, 0, 4, 4, 4}, 3), "propose 1 a", "error 40", "14:5?|14|14", 18},
	} {
		c.mustHold(t, "11.2")
		if c.told == "a" {
			continue
		}
		c.op = strings.TrimSuffix(strings.Replace(c.op, "propose", "learn", 1), " a")
		c.mustHold(t, "11.3") // what others had accepted is learned just so
	}
}

func TestLearn(t *testing.T) {
	for _, c := range []bidding{
		// Nothing was proposed.
		{"||", nil, "learn 0", "none", "5|5|5", 3},
		{"||", nil, "learn 3", "none", "8|8|8", 3},
		{"", nil, "learn 0", "none", "5", 1},
		{"||||", nil, "learn 0", "none", "5|5|5|5|5", 5},
		{"||", []int{4}, "learn 0", "none", "|5|5", 3},
		{"||", []int{4, 4}, "learn 0", "none", "9|9|9", 6},
		{"||", []int{0, 4, 4, 4, 5, 0}, "learn 0", "none", "13|13|13", 9},
		{"9|9|", nil, "learn 0", "none", "13|13|13", 6},
		{"9||", nil, "learn 0", "none", "9|5|5", 3},
		{"||", slices.Repeat([]int{0, 4, 4}, 3), "learn 0", "error 40", "13||", 9},
		{"||", slices.Repeat([]int{4}, 9), "learn 0", "error 40", "||", 9},
		{".|.|", nil, "learn 0", "error 40", ".|.|13", 9},
		{".||", nil, "learn 0", "none", ".|5|5", 3},
		{"~|~|", nil, "learn 0", "error 40", "||13", 9},
		{"~||", nil, "learn 0", "none", "|5|5", 3},
		// A minority has accepted: heard, it is brought to the end; not heard, nothing is decided so far.
		{"5:5a||", nil, "learn 1", "a", "6:6a|6:6a|6:6a", 6},
		{"||5:5a", nil, "learn 1", "a", "6:6a|6:6a|6:6a", 6},
		{"5:5a||", []int{4}, "learn 1", "none", "5:5a|6|6", 3},
		{"5:5a||", []int{5}, "learn 1", "none", "6:5a|6|6", 3},
		{"5:5a||", []int{7}, "learn 1", "none", "6:5a|6|6", 3},
		{"9:5a||", nil, "learn 1", "none", "9:5a|6|6", 3}, // it refused to promise
		{"9:9a||", nil, "learn 1", "none", "9:9a|6|6", 3},
		{"5:5a||", []int{0, 0, 0, 4, 4, 4}, "learn 1", "a", "10:10a|10:10a|10:10a", 12},
		{"5:5a||", []int{0, 0, 0, 4, 4, 4, 4}, "learn 1", "none", "6:5a|10|10", 9}, // in a later round it is not heard
		{"5:5a||", []int{4, 0, 4}, "learn 1", "a", "10:10a|10:10a|10:10a", 9},      // in a later round it is heard
		{"5:5a||", slices.Repeat([]int{0, 0, 0, 4, 4, 4}, 3), "learn 1", "error 40", "14:5a|14|14", 18},
		{"5:5a||", slices.Repeat([]int{0, 0, 0, 0, 4, 4}, 3), "learn 1", "error 40", "14:14a|14|14", 18},
		{"5:5a|||5:5b|", nil, "learn 1", "a", same("6:6a", 5), 10},
		// A majority has accepted.
		{"5:5a|5:5a|", nil, "learn 0", "a", "9:9a|9:9a|9:9a", 9},
		{"5:5a|5:5a|", nil, "learn 1", "a", "6:6a|6:6a|6:6a", 6},
		{"5:5a|5:5a|5:5a", nil, "learn 2", "a", "7:7a|7:7a|7:7a", 6},
		{"5:5a|5:5a|", []int{4}, "learn 1", "a", "6:6a|6:6a|6:6a", 6},
		{"5:5a|5:5a|", []int{0, 4, 0, 0, 0, 4}, "learn 1", "a", "6:6a|6:6a|6", 6},
		{"5:5a|5:5a|", []int{0, 0, 4}, "learn 1", "a", "6:6a|6:6a|6:6a", 6},
		{"5:5a|.|5:5a", nil, "learn 1", "a", "6:6a|.|6:6a", 6},
		{"5:5a|.|.", nil, "learn 1", "error 40", "14:5a|.|.", 9},
		{"5:5a|5:5a|", slices.Repeat([]int{4}, 9), "learn 1", "error 40", "5:5a|5:5a|", 9},
		{"5:5a", nil, "learn 1", "a", "6:6a", 2},
	} {
		c.mustHold(t, "11.3")
	}
}

// TestAnotherOnesValue is brought to the end by whoever comes next.
func TestAnotherOnesValue(t *testing.T) {
	half := func() *net.Net {
		return bidding{"||", slices.Concat([]int{0, 0, 0, 0, 4, 4}, slices.Repeat([]int{4}, 6)), "propose 0 a", "error 40", "5:5a|5|5", 12}.mustHold(t, "11.2")
	}
	n := half()
	mustTell(t, opOf("propose 1 b").of(n, version), "a", "11.2: a value that another one proposed")
	mustShow(t, n, "6:6a|6:6a|6:6a", "11.2: a value that another one proposed")
	n = half()
	mustTell(t, opOf("learn 1").of(n, version), "a", "11.3: a value that another one proposed")
	mustTell(t, opOf("propose 2 c").of(n, version), "a", "11.4: behind a Learn")
	n = half()
	n.Weather(4, 0, 0, 4) // who had accepted it is not there
	mustTell(t, opOf("propose 1 b").of(n, version), "b", "11.2: another value")
	mustShow(t, n, "5:5a|6:6b|6:6b", "11.2: another value")
	mustTell(t, opOf("propose 0 a").of(n, version), "b", "11.4: the first value is lost")
	mustShow(t, n, "9:9b|9:9b|9:9b", "11.4: the first value is lost")
	n = half()
	mustTell(t, opOf("propose 0 d").of(n, version), "a", "11.2: its own value of an earlier call")
}

// TestWrongInputs: refused ahead of any call.
func TestWrongInputs(t *testing.T) {
	n := laid(t, "5:5a||")
	refuse := func(n *net.Net, version, who int, l []api.Segment) {
		t.Helper()
		if told, e := Propose(n, version, who, l); len(told) > 0 || e != api.ErrArg {
			t.Errorf("11.2: Propose(%v, %d, %d, %v): %v, error %d", n != nil, version, who, l, told, e)
		}
	}
	refuseBoth := func(n *net.Net, version, who int) {
		t.Helper()
		refuse(n, version, who, chain('b'))
		refuse(n, version, who, nil)
		if told, is, e := Learn(n, version, who); len(told) > 0 || is || e != api.ErrArg {
			t.Errorf("11.3: Learn(%v, %d, %d): %v, %v, error %d", n != nil, version, who, told, is, e)
		}
	}
	mustCall(t, n, 0, "11.2: wrong inputs", func() {
		for _, net := range []*net.Net{nil, n} {
			for _, v := range noVersions {
				for _, who := range append(noServers, 0, 3) {
					refuseBoth(net, v, who)
				}
			}
			for _, who := range noServers {
				for _, v := range []int{1, version, 16} {
					refuseBoth(net, v, who)
				}
			}
		}
		for _, v := range []int{1, version, 16} {
			for who := range 4 {
				refuseBoth(nil, v, who)
			}
		}
		for _, l := range noChains() {
			refuse(n, version, 0, l)
		}
	})
	mustShow(t, n, "5:5a||", "11.2: wrong inputs")
	for v := range 17 {
		if got := shown(t, n, v); v != version && got != "||" {
			t.Errorf("11.2: wrong inputs: version %d has %s", v, got)
		}
	}
}

// TestNodesThatAreNotUp do not count, till they are.
func TestNodesThatAreNotUp(t *testing.T) {
	n := newNet(t, 3)
	mustBe(t, n.Crash(1, disk.Loss{}), api.OK, "9.4: Crash")
	mustTell(t, opOf("propose 0 a").of(n, version), "a", "11.2: two of three")
	mustBe(t, n.Crash(2, disk.Loss{}), api.OK, "9.4: Crash")
	mustTell(t, opOf("propose 1 b").of(n, version), "error 40", "11.2: one of three")
	mustTell(t, opOf("learn 1").of(n, version), "error 40", "11.3: one of three")
	mustBe(t, n.Restart(1), api.OK, "9.4: Restart")
	mustTell(t, opOf("learn 1").of(n, version), "a", "11.3: another two of three")
	mustBe(t, n.Crash(0, disk.Loss{}), api.OK, "9.4: Crash")
	mustBe(t, n.Restart(2), api.OK, "9.4: Restart")
	mustTell(t, opOf("propose 2 c").of(n, version), "a", "11.4: the last two of three")
}
