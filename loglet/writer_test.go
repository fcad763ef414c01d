package loglet

import (
	"fmt"
	"strings"
	"testing"

	"headland/api"
	"headland/disk"
	"headland/net"
)

func TestExamples(t *testing.T) {
	n := newNet(t, 3)
	w := newWriter(t, n)
	mustAppend(t, w, "a", "b")
	tail, e := Tail(n, log)
	mustTell(t, tail, e, 2, api.OK, "10: Tail")
	mustRead(t, n, 1, "b", api.OK, "10: an example")
	tail, e = Close(n, log)
	mustTell(t, tail, e, 2, api.OK, "10: Close")
	mustRefuse(t, w, "c", api.ErrSealed, 3, "10: behind Close")
	tail, e = Tail(n, log)
	mustTell(t, tail, e, 0, api.ErrSealed, "10: Tail behind Close")
	n = newNet(t, 3)
	n.Weather(0, 4, 4)
	mustRefuse(t, newWriter(t, n), "a", api.ErrTimeout, 1, "10: at node 0 alone")
	mustShow(t, n, "a||", "10: at node 0 alone")
	tail, e = Tail(n, log)
	mustTell(t, tail, e, 1, api.OK, "10: Tail of what is at node 0 alone")
	mustShow(t, n, "a|a|a", "10: it is helped")
}

func TestNew(t *testing.T) {
	n := laid(t, "ab|a|ab!")
	mustCall(t, n, 0, "10.1: New", func() {
		for _, l := range append(noLogs, 0, 3, 16) {
			if w, e := New(nil, l); w != nil || e != api.ErrArg {
				t.Errorf("10.1: New of no net, loglet %d: %v, %d", l, w, e)
			}
		}
		for _, l := range noLogs {
			if w, e := New(n, l); w != nil || e != api.ErrArg {
				t.Errorf("10.1: New of loglet %d: %v, %d", l, w, e)
			}
		}
		for l := range 17 {
			w, e := New(n, l)
			if w == nil || e != api.OK {
				t.Fatalf("10.1: New of loglet %d: %v, %d", l, w, e)
			}
			if w.Log() != l || w.Len() != 0 || w.Done() != 0 || w.Over() {
				t.Errorf("10.1: New of loglet %d: Log %d, Len %d, Done %d, Over %v", l, w.Log(), w.Len(), w.Done(), w.Over())
			}
		}
	})
	mustShow(t, n, "ab|a|ab!", "10.1: New changes nothing")
}

// TestTheLogletItIsOf: a Writer writes to its own loglet alone.
func TestTheLogletItIsOf(t *testing.T) {
	n := newNet(t, 3)
	for l := range 17 {
		w, _ := New(n, l)
		if at, e := w.Append([]byte{'a' + byte(l)}); at != 0 || e != api.OK || w.Log() != l {
			t.Fatalf("10.2: Append to loglet %d: %d, %d", l, at, e)
		}
	}
	for l := range 17 {
		v := string('a' + rune(l))
		if got := shown(t, n, l); got != v+"|"+v+"|"+v {
			t.Errorf("10.2: loglet %d has %s", l, got)
		}
	}
}

func TestAppend(t *testing.T) {
	for nodes := 1; nodes <= 5; nodes++ {
		n := newNet(t, nodes)
		w := newWriter(t, n)
		for at, v := range []string{"a", "", "some more", longest, longest, "a"} {
			mustCall(t, n, nodes, "10.2: Append", func() { mustAppend(t, w, v) })
			mustRead(t, n, at, v, api.OK, "10.2: what was appended")
		}
		row := "a()(some more)" + strings.Repeat(brief([]byte(longest)), 2) + "a"
		mustShow(t, n, strings.TrimSuffix(strings.Repeat(row+"|", nodes), "|"), "10.2: each node has it")
	}
}

func TestAppendOfTooMuch(t *testing.T) {
	n := newNet(t, 3)
	w := newWriter(t, n)
	for _, long := range []int{1801, 1802, 8192, 1 << 20} {
		mustCall(t, n, 0, "10.2: Append of too much", func() { mustRefuse(t, w, strings.Repeat("x", long), api.ErrLong, 0, "10.2: too long") })
	}
	mustStand(t, w, 0, 0, false, "10.2: Append of too much")
	mustShow(t, n, "||", "10.2: Append of too much")
	mustAppend(t, w, strings.Repeat("x", 1800), strings.Repeat("x", 1799))
}

func TestMostSlots(t *testing.T) {
	n := netOf(t, 3, 400)
	w := newWriter(t, n)
	for range 255 {
		mustAppend(t, w, "v")
	}
	at, e := w.Append([]byte("last"))
	mustTell(t, at, e, 255, api.OK, "10.2: the 256th")
	for range 2 {
		mustCall(t, n, 0, "10.2: the 257th", func() { mustRefuse(t, w, "x", api.ErrMany, 256, "10.2: the 257th") })
		mustRefuse(t, w, longest+"x", api.ErrLong, 256, "10.2: too long comes first")
		mustStand(t, w, 256, 256, false, "10.2: the 257th")
		mustBe(t, w.Push(), api.OK, "10.2: Push of a whole row")
	}
	tail, e := Tail(n, log)
	mustTell(t, tail, e, 256, api.OK, "10.3: Tail of most slots")
	tail, e = Close(n, log)
	mustTell(t, tail, e, 256, api.OK, "10.4: Close of most slots")
	mustCall(t, n, 0, "10.2: ErrMany where nodes are sealed, but none was met", func() { mustRefuse(t, w, "x", api.ErrMany, 256, "10.2: the 257th") })
}

// TestOrder of Append's refusals: ErrLong, ErrSealed, what Push refuses, ErrMany.
func TestOrder(t *testing.T) {
	over := func(t *testing.T) (*net.Net, *Writer) {
		n := laid(t, "!||")
		w := newWriter(t, n)
		n.Weather(0, 4)
		mustRefuse(t, w, "a", api.ErrSealed, 1, "10.2: a sealed node")
		return n, w
	}
	n, w := over(t)
	mustCall(t, n, 0, "10.2: an Append behind Over", func() {
		mustRefuse(t, w, longest+"x", api.ErrLong, 1, "10.2: ErrLong ahead of ErrSealed")
		mustRefuse(t, w, longest, api.ErrSealed, 1, "10.2: ErrSealed ahead of what Push refuses")
	})
	mustStand(t, w, 0, 1, true, "10.2: behind ErrSealed")
	n = newNet(t, 3)
	w = newWriter(t, n)
	n.Weather(0, 4, 4)
	mustRefuse(t, w, "a", api.ErrTimeout, 1, "10.2: too few")
	mustCall(t, n, 0, "10.2: ErrLong", func() { mustRefuse(t, w, longest+"x", api.ErrLong, 1, "10.2: ErrLong ahead of what Push refuses") })
	mustShow(t, n, "a||", "10.2: ErrLong")
	n.Weather(4, 4)
	mustRefuse(t, w, "b", api.ErrTimeout, 1, "10.2: what Push refuses")
}

// fullRow is a Writer whose row is full, but for its last value at no node but one.
func fullRow(t *testing.T) (*net.Net, *Writer) {
	t.Helper()
	n := netOf(t, 3, 300)
	w := newWriter(t, n)
	for range 255 {
		mustAppend(t, w, "")
	}
	n.Weather(4, 0, 4)
	mustRefuse(t, w, "", api.ErrTimeout, 256, "10.2: too few")
	return n, w
}

// TestOrderOfAFullRow: what waits is pushed ahead of ErrMany.
func TestOrderOfAFullRow(t *testing.T) {
	n, w := fullRow(t)
	n.Weather(4, 4)
	mustCall(t, n, 2, "10.2: Append to a full row", func() { mustRefuse(t, w, "x", api.ErrTimeout, 256, "10.2: what Push refuses ahead of ErrMany") })
	mustStand(t, w, 255, 256, false, "10.2: a full row")
	n.Weather(4)
	mustCall(t, n, 2, "10.2: Append to a full row", func() { mustRefuse(t, w, "x", api.ErrMany, 256, "10.2: ErrMany behind a Push that is OK") })
	mustStand(t, w, 256, 256, false, "10.2: a full row that is pushed")
	n, w = fullRow(t)
	mustDo(t, n, 0, api.Request{Kind: api.RSeal})
	mustDo(t, n, 2, api.Request{Kind: api.RSeal})
	mustRefuse(t, w, "x", api.ErrSealed, 256, "10.2: what Push refuses ahead of ErrMany")
	mustStand(t, w, 255, 256, true, "10.2: a full row, sealed")
	mustRefuse(t, w, "x", api.ErrSealed, 256, "10.2: ErrSealed ahead of ErrMany")
}

// TestOverOfAWholeRow: a Writer that has all at a majority and met a sealed node pushes nothing, and appends nothing.
func TestOverOfAWholeRow(t *testing.T) {
	for _, rows := range []string{"!||", "|!|", "||!"} {
		n := laid(t, rows)
		w := newWriter(t, n)
		at, e := w.Append([]byte("a"))
		mustTell(t, at, e, 0, api.OK, "10.2: a sealed node beside a majority")
		mustStand(t, w, 1, 1, true, "10.2: a sealed node beside a majority")
		mustCall(t, n, 0, "10.2: Over", func() {
			mustBe(t, w.Push(), api.OK, "10.2: Push where nothing is to be done, of one that is Over")
			mustRefuse(t, w, "b", api.ErrSealed, 1, "10.2: Append of one that is Over")
		})
		mustStand(t, w, 1, 1, true, "10.2: Over stays")
	}
}

// TestOverInTheFirstPush: Append asks for Over ahead of its first Push alone. A sealed node that is met there, beside a majority, does not keep the value out of the row; its own Push is refused without a call.
func TestOverInTheFirstPush(t *testing.T) {
	n := newNet(t, 3)
	w := newWriter(t, n)
	n.Weather(0, 4, 4)
	mustRefuse(t, w, "a", api.ErrTimeout, 1, "10.2: too few")
	mustDo(t, n, 1, api.Request{Kind: api.RSeal})
	mustCall(t, n, 2, "10.2: Over in the first Push", func() { mustRefuse(t, w, "b", api.ErrSealed, 2, "10.2: Over in the first Push") })
	mustStand(t, w, 1, 2, true, "10.2: Over in the first Push")
	mustShow(t, n, "a|!|a", "10.2: Over in the first Push")
	n, w = fullRow(t)
	mustDo(t, n, 0, api.Request{Kind: api.RSeal})
	mustRefuse(t, w, "x", api.ErrMany, 256, "10.2: Over in the first Push of a full row")
	mustStand(t, w, 256, 256, true, "10.2: Over in the first Push of a full row")
	mustRefuse(t, w, "x", api.ErrSealed, 256, "10.2: ErrSealed ahead of ErrMany")
}

func TestPushOfNothing(t *testing.T) {
	n := newNet(t, 3)
	w := newWriter(t, n)
	for range 3 {
		mustCall(t, n, 0, "10.2: Push of nothing", func() { mustBe(t, w.Push(), api.OK, "10.2: Push of nothing") })
		mustAppend(t, w, "a")
	}
	n.Weather(0, 0, 4)
	mustAppend(t, w, "b")
	mustCall(t, n, 0, "10.2: a node that lags behind a majority", func() { mustBe(t, w.Push(), api.OK, "10.2: Push") })
	mustShow(t, n, "aaab|aaab|aaa", "10.2: Push of what is at a majority")
	for to := range 3 {
		n.Crash(to, disk.Loss{})
	}
	mustBe(t, w.Push(), api.OK, "10.2: Push of nothing, no node being up")
	restartAll(n)
	mustAppend(t, w, "c")
	mustShow(t, n, "aaabc|aaabc|aaabc", "10.2: who lags behind gets all")
}

func TestPushOfOneThatIsOver(t *testing.T) {
	n := laid(t, "!|!|")
	w := newWriter(t, n)
	mustCall(t, n, 3, "10.2: sealed nodes", func() { mustRefuse(t, w, "a", api.ErrSealed, 1, "10.2: sealed nodes") })
	mustShow(t, n, "!|!|a", "10.2: the node behind sealed ones is asked too")
	for range 2 {
		mustCall(t, n, 0, "10.2: Push of one that is Over", func() { mustBe(t, w.Push(), api.ErrSealed, "10.2: Push of one that is Over") })
		mustStand(t, w, 0, 1, true, "10.2: Push of one that is Over")
	}
}

// TestWhatIsNotTaken: an Append whose first Push is refused leaves no trace of its value; one whose own Push is refused leaves it in the row.
func TestWhatIsNotTaken(t *testing.T) {
	n := newNet(t, 3)
	w := newWriter(t, n)
	n.Weather(4, 4, 4)
	mustRefuse(t, w, "a", api.ErrTimeout, 1, "10.2: its own Push is refused")
	n.Weather(4, 4, 4)
	mustRefuse(t, w, "b", api.ErrTimeout, 1, "10.2: the first Push is refused")
	n.Weather(0, 4, 4)
	mustRefuse(t, w, "c", api.ErrTimeout, 1, "10.2: the first Push is refused once more")
	mustShow(t, n, "a||", "10.2: the first Push")
	mustStand(t, w, 0, 1, false, "10.2: the first Push is refused")
	n.Weather(4, 0, 4, 4, 4) // node 0 has it: the first Push goes to two nodes, the second one to three
	mustRefuse(t, w, "d", api.ErrTimeout, 2, "10.2: the first Push is OK, its own is refused")
	mustStand(t, w, 1, 2, false, "10.2: its own Push is refused")
	mustShow(t, n, "a||a", "10.2: just its own Push is refused")
	mustBe(t, w.Push(), api.OK, "10.2: Push of what stayed")
	mustStand(t, w, 2, 2, false, "10.2: Push of what stayed")
	mustShow(t, n, "ad|ad|ad", "10.2: Push of what stayed")
	mustAppend(t, w, "e")
	mustShow(t, n, "ade|ade|ade", "10.2: Append behind it")
}

// TestCallsOfAPush: which calls a Push makes, and in which order.
func TestCallsOfAPush(t *testing.T) {
	lagging := func(l ...[]int) func() (*net.Net, func()) {
		return func() (*net.Net, func()) {
			n := newNet(t, 3)
			w := newWriter(t, n)
			for i, weather := range l {
				n.Weather(weather...)
				w.Append([]byte{'a' + byte(i)})
				for n.Ahead() > 0 {
					n.Fate()
				}
			}
			return n, func() { w.Append([]byte("z")) }
		}
	}
	lost := []int{0, 0, 4}
	for _, c := range []struct {
		behind  [][]int
		weather []int
		want    string
	}{
		{nil, nil, "0 write 0 z, 1 write 0 z, 2 write 0 z"},
		{nil, []int{4, 5, 6}, "0 write 0 z, 1 write 0 z, 2 write 0 z"},
		{[][]int{{}}, nil, "0 write 1 z, 1 write 1 z, 2 write 1 z"},
		{[][]int{lost}, nil, "0 write 1 z, 1 write 1 z, 2 write 0 a, 2 write 1 z"},
		{[][]int{lost, lost}, nil, "0 write 2 z, 1 write 2 z, 2 write 0 a, 2 write 1 b, 2 write 2 z"},
		{[][]int{lost, lost}, []int{0, 0, 0, 4}, "0 write 2 z, 1 write 2 z, 2 write 0 a, 2 write 1 b"},
		{[][]int{lost, lost}, []int{7, 7, 7, 7, 7}, "0 write 2 z, 1 write 2 z, 2 write 0 a, 2 write 1 b, 2 write 2 z"},
		{[][]int{{0, 4, 4}}, nil, "1 write 0 a, 2 write 0 a, 0 write 1 z, 1 write 1 z, 2 write 1 z"},
		{[][]int{{0, 4, 4}}, []int{4, 0}, "1 write 0 a, 2 write 0 a, 0 write 1 z, 1 write 0 a, 1 write 1 z, 2 write 1 z"},
		{[][]int{{0, 4, 4}}, []int{4, 4}, "1 write 0 a, 2 write 0 a"},
		{[][]int{{0, 5, 0}}, nil, "0 write 1 z, 1 write 0 a, 1 write 1 z, 2 write 1 z"}, // written, but not known to be
		{[][]int{{0, 5, 0}, {0, 5, 0}}, nil, "0 write 2 z, 1 write 0 a, 1 write 1 b, 1 write 2 z, 2 write 2 z"},
	} {
		mustAsk(t, asked(t, c.weather, lagging(c.behind...)), c.want, fmt.Sprint("10.2: Append behind ", c.behind, " in ", c.weather))
	}
}

// TestCallsBehindHelp: a node that was helped meanwhile is known to have all of that by one answer.
func TestCallsBehindHelp(t *testing.T) {
	mustAsk(t, asked(t, nil, func() (*net.Net, func()) {
		n := newNet(t, 3)
		w := newWriter(t, n)
		for _, v := range []string{"a", "b", "c"} {
			n.Weather(0, 0, 4)
			mustAppend(t, w, v)
		}
		tail, e := Tail(n, log)
		mustTell(t, tail, e, 3, api.OK, "10.3: Tail")
		return n, func() { w.Append([]byte("z")) }
	}), "0 write 3 z, 1 write 3 z, 2 write 0 a, 2 write 3 z", "10.2: behind a Tail")
}

// place is how a node takes one Append: its fate, and what it is like.
type place struct {
	fate               int
	row                string
	known, has, sealed bool
}

// places are all that a node may be; a node that is sealed or has no room answers, if its answer is not lost.
func places() []place {
	return []place{
		{0, "", true, true, false}, {7, "", true, true, false}, {4, "", false, false, false}, {5, "", false, true, false}, {6, "", false, false, false},
		{0, ".", false, false, false}, {0, "!", false, false, true}, {7, "!", false, false, true}, {5, "!", false, false, false}, {0, "~", false, false, false},
	}
}

// TestAppendInEachPlace: three nodes that are all kinds of ways.
func TestAppendInEachPlace(t *testing.T) {
	for _, a := range places() {
		for _, b := range places() {
			for _, c := range places() {
				appendIn(t, []place{a, b, c})
			}
		}
	}
}

func appendIn(t *testing.T, l []place) {
	t.Helper()
	why := fmt.Sprint("10.2: Append to ", l)
	n := laid(t, l[0].row+"|"+l[1].row+"|"+l[2].row)
	w := newWriter(t, n)
	known, over, done := 0, false, 0
	var rows []string
	for _, p := range l {
		n.Weather(p.fate)
		row := strings.TrimRight(p.row, "~")
		if p.has {
			row = "a" + row
		}
		if p.known {
			known++
		}
		rows, over = append(rows, row), over || p.sealed
	}
	want := api.ErrTimeout
	if over {
		want = api.ErrSealed
	}
	if known >= 2 {
		want, done = api.OK, 1
	}
	at, e := w.Append([]byte("a"))
	mustTell(t, at, e, 0, want, why)
	mustStand(t, w, done, 1, over, why)
	mustShow(t, n, strings.Join(rows, "|"), why)
	if n.Ahead() != 0 {
		t.Fatalf("%s: %d fates are left", why, n.Ahead())
	}
}

// TestAnswersAboveTheRow: a node that has more than the row is known to have the row, and no more.
func TestAnswersAboveTheRow(t *testing.T) {
	n := laid(t, "xyz|xyz|xyz")
	w := newWriter(t, n)
	mustCall(t, n, 3, "10.2: nodes that have more", func() { mustAppend(t, w, "a") })
	mustCall(t, n, 3, "10.2: nodes that have more", func() { mustAppend(t, w, "b") })
	mustCall(t, n, 3, "10.2: nodes that have as many", func() { mustAppend(t, w, "c") })
	mustShow(t, n, "xyz|xyz|xyz", "10.2: slots that there are stay")
	mustAppend(t, w, "d")
	mustShow(t, n, "xyzd|xyzd|xyzd", "10.2: behind what there is")
	n = laid(t, "xyz||x") // of one call the greater part is known at once
	w = newWriter(t, n)
	n.Weather(4, 0, 4)
	mustRefuse(t, w, "a", api.ErrTimeout, 1, "10.2: too few")
	mustAppend(t, w, "b")
	mustShow(t, n, "xyz|ab|xb", "10.2: each node from what it is known to have")
}

// TestAnswersNoMore: a node that has no more than it was known to have is left, and known to have what it has.
func TestAnswersNoMore(t *testing.T) {
	n := laid(t, "abc|a|abc")
	w := newWriter(t, n)
	w.row = [][]byte{[]byte("a"), []byte("b"), []byte("c")}
	w.known = []int{3, 2, 3}
	w.done = 3
	n.Weather(0, 0, 4)
	mustCall(t, n, 3, "10.2: a node that has less", func() { mustRefuse(t, w, "d", api.ErrTimeout, 4, "10.2: a node that has less") })
	mustShow(t, n, "abcd|a|abc", "10.2: a gap is left")
	mustCall(t, n, 4, "10.2: from what it has on", func() { mustBe(t, w.Push(), api.OK, "10.2: from what it has on") })
	mustStand(t, w, 4, 4, false, "10.2: from what it has on")
	mustShow(t, n, "abcd|abcd|abcd", "10.2: from what it has on")
}

// TestMajorities: Done asks for half of the nodes and one, whichever they are.
func TestMajorities(t *testing.T) {
	for nodes := 1; nodes <= 5; nodes++ {
		for mask := range 1 << nodes {
			n := newNet(t, nodes)
			w := newWriter(t, n)
			taken := 0
			for to := range nodes {
				n.Weather(4 * (1 - mask>>to&1))
				taken += mask >> to & 1
			}
			at, e := w.Append([]byte("a"))
			why := fmt.Sprintf("10.2: %d nodes, taken %b", nodes, mask)
			if 2*taken > nodes {
				mustTell(t, at, e, 0, api.OK, why)
				mustStand(t, w, 1, 1, false, why)
			} else {
				mustTell(t, at, e, 0, api.ErrTimeout, why)
				mustStand(t, w, 0, 1, false, why)
			}
		}
	}
}

// TestRowOfManyThatWait: a node that was away gets all of it at once, in order.
func TestRowOfManyThatWait(t *testing.T) {
	n := newNet(t, 3)
	w := newWriter(t, n)
	n.Crash(1, disk.Loss{})
	mustAppend(t, w, "a", "b", "c", "d", "e", "f", "g")
	n.Crash(0, disk.Loss{})
	mustRefuse(t, w, "h", api.ErrTimeout, 8, "10.2: one node of three")
	n.Restart(1)
	mustCall(t, n, 9, "10.2: all of it", func() { mustBe(t, w.Push(), api.OK, "10.2: all of it") }) // node 0 is asked too
	mustStand(t, w, 8, 8, false, "10.2: all of it")
	n.Restart(0)
	mustShow(t, n, "abcdefg|abcdefgh|abcdefgh", "10.2: all of it")
}
