package loglet

import (
	"fmt"
	"slices"
	"strings"
	"testing"

	"headland/api"
	"headland/disk"
	"headland/net"
)

// ending is a call of Tail or Close: how the nodes are, what becomes of its calls, what it tells, how they are then, and how many calls it makes.
type ending struct {
	rows    string
	weather []int
	tail    int
	err     api.Errno
	then    string
	calls   int
}

func (c ending) mustHold(t *testing.T, call func(*net.Net, int) (int, api.Errno), why string) *net.Net {
	t.Helper()
	why = fmt.Sprint(why, " of ", c.rows, " in ", c.weather)
	n := laid(t, c.rows)
	n.Weather(c.weather...)
	mustCall(t, n, c.calls, why, func() {
		tail, e := call(n, log)
		mustTell(t, tail, e, c.tail, c.err, why)
	})
	mustShow(t, n, c.then, why)
	return n
}

func TestTail(t *testing.T) {
	for _, c := range []ending{
		{"||", nil, 0, 0, "||", 3},
		{"ab|ab|ab", nil, 2, 0, "ab|ab|ab", 3},
		{"ab|ab|a", nil, 2, 0, "ab|ab|ab", 5},
		{"ab|a|ab", nil, 2, 0, "ab|ab|ab", 5},
		{"a|ab|ab", nil, 2, 0, "ab|ab|ab", 5},
		{"a|ab|", nil, 2, 0, "ab|ab|ab", 9},
		{"abcdefg||abc", nil, 7, 0, "abcdefg|abcdefg|abcdefg", 25},
		{"||abcde", nil, 5, 0, "abcde|abcde|abcde", 23},
		{"", nil, 0, 0, "", 1},
		{"abc", nil, 3, 0, "abc", 1},
		{"ab|", nil, 2, 0, "ab|ab", 6},
		{"|ab", nil, 2, 0, "ab|ab", 6},
		{"|a|ab|a", nil, 2, 0, "ab|ab|ab|ab", 12},
		{"|a|ab|a|ab", nil, 2, 0, "ab|ab|ab|ab|ab", 13},
		{"---|---|---", nil, 3, 0, "---|---|---", 3},
		{"ab|xy|ab", nil, 2, 0, "ab|xy|ab", 3}, // what stands there is nobody's business
		{"x|ab|ab", nil, 2, 0, "xb|ab|ab", 5},
	} {
		c.mustHold(t, Tail, "10.3: Tail")
		c.weather = slices.Repeat([]int{7}, c.calls)
		c.mustHold(t, Tail, "10.3: Tail, all of it twice")
	}
}

func TestTailOfTooFew(t *testing.T) {
	for _, c := range []ending{
		{"ab|ab|a", []int{4, 4}, 0, api.ErrTimeout, "ab|ab|a", 3},
		{"ab|ab|a", []int{0, 5, 6}, 0, api.ErrTimeout, "ab|ab|a", 3},
		{"ab|ab|a", []int{6, 0, 4}, 0, api.ErrTimeout, "ab|ab|a", 3},
		{"ab|ab|a", []int{4, 5, 6}, 0, api.ErrTimeout, "ab|ab|a", 3},
		{"ab.|ab.|a", nil, 0, api.ErrTimeout, ".|.|a", 3},
		{"ab.|ab|a", []int{0, 4}, 0, api.ErrTimeout, ".|ab|a", 3},
		{"ab!|ab|a", []int{0, 4, 4}, 0, api.ErrTimeout, "ab!|ab|a", 3}, // ahead of ErrSealed
		{"ab!|ab.|a.", nil, 0, api.ErrTimeout, "ab!|.|.", 3},
		{"ab.", nil, 0, api.ErrTimeout, ".", 1},
		{"ab|", []int{4}, 0, api.ErrTimeout, "ab|", 2},
		{"ab||ab|", []int{0, 4, 4}, 0, api.ErrTimeout, "ab||ab|", 4},
		{"ab||ab||", []int{0, 4, 0, 4, 4}, 0, api.ErrTimeout, "ab||ab||", 5},
		{"||", []int{4, 4}, 0, api.ErrTimeout, "||", 3},
	} {
		c.mustHold(t, Tail, "10.3: Tail")
	}
}

// TestTailOfAMajority: who is not taken is not looked at, and not helped.
func TestTailOfAMajority(t *testing.T) {
	for _, c := range []ending{
		{"ab|a|a", []int{0, 4}, 2, 0, "ab|a|ab", 5},
		{"ab|a|a", []int{4}, 1, 0, "ab|a|a", 3},
		{"ab.|a|", nil, 1, 0, ".|a|a", 5},
		{"ab|a|", []int{5}, 1, 0, "ab|a|a", 5},
		{"ab|a|", []int{6}, 1, 0, "ab|a|a", 5},
		{"ab.||", nil, 0, 0, ".||", 3},
		{"abc|ab|a||", []int{4, 0, 4}, 2, 0, "abc|ab|a|ab|ab", 13},
		{"a|ab|abc|ab", []int{0, 0, 4}, 2, 0, "ab|ab|abc|ab", 6},
		{"ab!|ab|a", []int{4}, 2, 0, "ab!|ab|ab", 5}, // a sealed one that is not taken
		{"ab!.|ab|a", nil, 2, 0, ".|ab|ab", 5},
	} {
		c.mustHold(t, Tail, "10.3: Tail")
	}
}

func TestTailOfASealedOne(t *testing.T) {
	for _, c := range []ending{
		{"ab!|ab|a", nil, 0, api.ErrSealed, "ab!|ab|a", 3},
		{"ab|a!|ab", nil, 0, api.ErrSealed, "ab|a!|ab", 3},
		{"||!", nil, 0, api.ErrSealed, "||!", 3},
		{"ab!|ab!|ab!", nil, 0, api.ErrSealed, "ab!|ab!|ab!", 3},
		{"ab|ab|!", []int{4}, 0, api.ErrSealed, "ab|ab|!", 3},
		{"a!", nil, 0, api.ErrSealed, "a!", 1},
		{"abc|abc|abc|abc|!", []int{4, 7, 0, 4, 7}, 0, api.ErrSealed, "abc|abc|abc|abc|!", 5},
	} {
		c.mustHold(t, Tail, "10.3: Tail")
	}
}

// TestHelpThatEnds: of one node, and not of the next ones.
func TestHelpThatEnds(t *testing.T) {
	for _, c := range []ending{
		{"ab|ab|a", []int{0, 0, 0, 4}, 2, 0, "ab|ab|a", 4}, // its read is lost
		{"ab|ab|a", []int{0, 0, 0, 5}, 2, 0, "ab|ab|a", 4},
		{"ab|ab|a", []int{0, 0, 0, 6}, 2, 0, "ab|ab|a", 4},
		{"ab|ab|a", []int{0, 0, 0, 0, 4}, 2, 0, "ab|ab|a", 5}, // its write is lost
		{"ab|ab|a", []int{0, 0, 0, 0, 5}, 2, 0, "ab|ab|ab", 5},
		{"ab|ab|a", []int{0, 0, 0, 0, 6}, 2, 0, "ab|ab|a", 5},
		{"abc|a|", []int{0, 0, 0, 0, 0, 4}, 3, 0, "abc|ab|abc", 12},
		{"abc|a|", []int{0, 0, 0, 0, 0, 0, 4}, 3, 0, "abc|ab|abc", 13},
		{"abc|a|", []int{0, 0, 0, 0, 0, 0, 5}, 3, 0, "abc|abc|abc", 13},
		{"abc|a|", []int{0, 0, 0, 0, 5}, 3, 0, "abc|ab|abc", 11},
		{"abc|a|", []int{0, 0, 0, 0, 0, 0, 0, 4}, 3, 0, "abc|abc|", 8},
		{"a||", []int{0, 0, 0, 0, 4, 0, 4}, 0, api.ErrTimeout, "a||", 7},
		{"a||", []int{0, 0, 0, 0, 5, 0, 5}, 0, api.ErrTimeout, "a|a|a", 7}, // they have it, but did not tell
		{"a||", []int{0, 0, 0, 0, 6, 0, 6}, 0, api.ErrTimeout, "a||", 7},
		{"a||", []int{0, 0, 0, 4, 4}, 0, api.ErrTimeout, "a||", 5},
		{"abc||", []int{0, 0, 0, 0, 0, 0, 0, 4, 4}, 0, api.ErrTimeout, "abc|ab|", 9},
		{"abc||", []int{0, 0, 0, 0, 0, 0, 0, 0, 5, 0, 7, 0, 7, 5}, 0, api.ErrTimeout, "abc|abc|ab", 14},
		{"ab|a|", []int{0, 4, 0, 0, 0, 0, 4}, 0, api.ErrTimeout, "ab|a|a", 7},
		{"ab|a|a|", []int{0, 0, 0, 0, 0, 4}, 2, 0, "ab|a|ab|ab", 12},
		{"ab|a|a|", []int{0, 0, 0, 0, 0, 4, 4}, 0, api.ErrTimeout, "ab|a|a|ab", 11},
		{"-b||", nil, 0, api.ErrTimeout, "-b||", 5}, // what is trimmed can't be read
		{"-b|-b|", nil, 2, 0, "-b|-b|", 4},
		{"-b|ab|", nil, 2, 0, "-b|ab|", 4}, // the first of the foremost ones is asked, and no other
		{"ab|-b|", nil, 2, 0, "ab|-b|ab", 7},
		{"-bc|a|", nil, 3, 0, "-bc|abc|", 8},
		{"-bc|-|", nil, 3, 0, "-bc|-bc|", 8},
		{"ab|~|", nil, 2, 0, "ab||ab", 9}, // no room
		{"ab||~", nil, 2, 0, "ab|ab|", 9},
		{"ab|a~|~", nil, 0, api.ErrTimeout, "ab|a|", 7},
		{"ab~|ab~|ab~", nil, 2, 0, "ab|ab|ab", 3},
	} {
		c.mustHold(t, Tail, "10.3: Tail")
		mustCloseAlike(t, c)
	}
}

// mustCloseAlike says that Close helps as Tail does, whether nodes were sealed ahead of it or not. (One without room is not sealed, so it is left out here.)
func mustCloseAlike(t *testing.T, c ending) {
	t.Helper()
	if strings.Contains(c.rows, "~") {
		return
	}
	seal := func(spelled string) string {
		rows := strings.Split(spelled, "|")
		for to := range rows {
			if to >= len(c.weather) || c.weather[to] != 4 {
				rows[to] += "!"
			}
		}
		return strings.Join(rows, "|")
	}
	c.then = seal(c.then)
	c.mustHold(t, Close, "10.4: Close")
	c.rows = seal(c.rows)
	c.mustHold(t, Close, "10.4: Close")
}

// TestHelpByAnswers: a Tail that is not one more ends it, and the node has what it answered.
func TestHelpByAnswers(t *testing.T) {
	for _, c := range []struct {
		rows             string
		tail, calls, has int
		then             string
	}{
		{"abcd|abcd", 1, 2, 4, "abcd|abcd"}, // it has more
		{"abcd|abc", 1, 2, 3, "abcd|abc"},
		{"abcd|ab", 1, 6, 4, "abcd|abcd"}, // it has just this slot: one more, so that it goes on
		{"abcd|a", 3, 2, 1, "abcd|a"},     // it has less
		{"abcd|", 1, 2, 0, "abcd|"},
	} {
		for _, kind := range []int{api.RWrite, api.RFix} {
			n, then := laid(t, c.rows), c.then
			if kind == api.RFix {
				mustDo(t, n, 1, api.Request{Kind: api.RSeal})
				then += "!"
			}
			why := fmt.Sprint("10.3: the help of ", c.rows, " from ", c.tail)
			mustCall(t, n, c.calls, why, func() {
				got := helping(n, log, kind)(replica{node: 0, tail: 4}, replica{node: 1, tail: c.tail})
				mustTell(t, got, api.OK, c.has, api.OK, why)
			})
			mustShow(t, n, then, why)
		}
	}
}

func TestCallsOfATail(t *testing.T) {
	for _, c := range []struct {
		rows    string
		weather []int
		want    string
	}{
		{"||", nil, "0 state, 1 state, 2 state"},
		{"a|abc|", nil, "0 state, 1 state, 2 state, 1 read 1, 0 write 1 b, 1 read 2, 0 write 2 c, 1 read 0, 2 write 0 a, 1 read 1, 2 write 1 b, 1 read 2, 2 write 2 c"},
		{"a|ab|ab", nil, "0 state, 1 state, 2 state, 1 read 1, 0 write 1 b"},
		{"a|ab|ab", []int{0, 4}, "0 state, 1 state, 2 state, 2 read 1, 0 write 1 b"},
		{"ab|ab|a!", nil, "0 state, 1 state, 2 state"},
		{"ab|ab|a", []int{4, 6}, "0 state, 1 state, 2 state"},
		{"ab|a|", []int{0, 0, 0, 5}, "0 state, 1 state, 2 state, 0 read 1, 0 read 0, 2 write 0 a, 0 read 1, 2 write 1 b"},
		{"ab||", []int{0, 0, 0, 7, 6}, "0 state, 1 state, 2 state, 0 read 0, 1 write 0 a, 0 read 0, 2 write 0 a, 0 read 1, 2 write 1 b"},
	} {
		of := func(call func(*net.Net, int) (int, api.Errno)) []string {
			return asked(t, c.weather, func() (*net.Net, func()) {
				n := laid(t, c.rows)
				return n, func() { call(n, log) }
			})
		}
		mustAsk(t, of(Tail), c.want, fmt.Sprint("10.3: Tail of ", c.rows, " in ", c.weather))
		if !strings.Contains(c.rows, "!") {
			closes := strings.NewReplacer("state", "seal", "write", "fix").Replace(c.want)
			mustAsk(t, of(Close), closes, fmt.Sprint("10.4: Close of ", c.rows, " in ", c.weather))
		}
	}
}

func TestClose(t *testing.T) {
	for _, c := range []ending{
		{"||", nil, 0, 0, "!|!|!", 3},
		{"ab|ab|ab", nil, 2, 0, "ab!|ab!|ab!", 3},
		{"a|ab|", nil, 2, 0, "ab!|ab!|ab!", 9},
		{"ab!|ab!|ab!", nil, 2, 0, "ab!|ab!|ab!", 3}, // it may be closed again
		{"ab!|a!|", nil, 2, 0, "ab!|ab!|ab!", 9},
		{"abcdefg||abc", nil, 7, 0, "abcdefg!|abcdefg!|abcdefg!", 25},
		{"", nil, 0, 0, "!", 1},
		{"abc", nil, 3, 0, "abc!", 1},
		{"ab|", nil, 2, 0, "ab!|ab!", 6},
		{"|a|ab|a", nil, 2, 0, "ab!|ab!|ab!|ab!", 12},
		{"|a|ab|a|ab", nil, 2, 0, "ab!|ab!|ab!|ab!|ab!", 13},
		{"---|---|---", nil, 3, 0, "---!|---!|---!", 3},
		{"x|ab|ab", nil, 2, 0, "xb!|ab!|ab!", 5},
	} {
		c.mustHold(t, Close, "10.4: Close")
		c.weather = slices.Repeat([]int{7}, c.calls)
		c.mustHold(t, Close, "10.4: Close, all of it twice")
	}
}

// TestCloseOfTooFew: who is asked is sealed all the same.
func TestCloseOfTooFew(t *testing.T) {
	for _, c := range []ending{
		{"ab|ab|a", []int{4, 4}, 0, api.ErrTimeout, "ab|ab|a!", 3},
		{"ab|ab|a", []int{0, 5, 6}, 0, api.ErrTimeout, "ab!|ab!|a", 3},
		{"ab|ab|a", []int{5, 5, 5}, 0, api.ErrTimeout, "ab!|ab!|a!", 3},
		{"ab.|ab.|a", nil, 0, api.ErrTimeout, ".|.|a!", 3},
		{"ab!|ab!|a", []int{4, 4}, 0, api.ErrTimeout, "ab!|ab!|a!", 3},
		{"ab.", nil, 0, api.ErrTimeout, ".", 1},
		{"ab|", []int{4}, 0, api.ErrTimeout, "ab|!", 2},
		{"ab||ab|", []int{0, 4, 4}, 0, api.ErrTimeout, "ab!||ab|!", 4},
		{"ab||ab||", []int{0, 4, 0, 4, 4}, 0, api.ErrTimeout, "ab!||ab!||", 5},
		{"ab~|ab~|a", nil, 0, api.ErrTimeout, "ab|ab|a!", 3}, // no room for the seal: taken, but not with OK
		{"ab|ab~|a~", nil, 0, api.ErrTimeout, "ab!|ab|a", 3},
	} {
		c.mustHold(t, Close, "10.4: Close")
	}
}

func TestCloseOfAMajority(t *testing.T) {
	for _, c := range []ending{
		{"ab|a|a", []int{0, 4}, 2, 0, "ab!|a|ab!", 5},
		{"ab|a|a", []int{4}, 1, 0, "ab|a!|a!", 3},
		{"ab.|a|", nil, 1, 0, ".|a!|a!", 5},
		{"ab|a|", []int{5}, 1, 0, "ab!|a!|a!", 5},
		{"ab|a|", []int{6}, 1, 0, "ab|a!|a!", 5},
		{"ab!|a|", []int{4}, 1, 0, "ab!|a!|a!", 5},
		{"abc|ab|a||", []int{4, 0, 4}, 2, 0, "abc|ab!|a|ab!|ab!", 13},
		{"ab~|a|", nil, 1, 0, "ab|a!|a!", 5}, // the answer of one without room has a Tail, but not OK
		{"a|ab~|", nil, 1, 0, "a!|ab|a!", 5},
		{"ab!~|a|", nil, 2, 0, "ab!|ab!|ab!", 9}, // one that is sealed needs no room for it
		{"ab!~|a!~|", nil, 2, 0, "ab!|a!|ab!", 9},
		{"ab!~|a!~|!~", nil, 0, api.ErrTimeout, "ab!|a!|!", 7},
	} {
		c.mustHold(t, Close, "10.4: Close")
	}
}

// TestLateHelp: a delayed write of a Tail's help that comes behind a Close is refused; a delayed fix is done.
func TestLateHelp(t *testing.T) {
	n := ending{"ab|ab|a", []int{0, 0, 0, 0, 6}, 2, 0, "ab|ab|a", 5}.mustHold(t, Tail, "10.3: Tail")
	n.Deliver(0)
	mustShow(t, n, "ab|ab|ab", "10.3: help that comes late")
	n = ending{"ab|ab|a", []int{0, 0, 0, 0, 6}, 2, 0, "ab|ab|a", 5}.mustHold(t, Tail, "10.3: Tail")
	n.Weather(0, 0, 0, 4)
	tail, e := Close(n, log)
	mustTell(t, tail, e, 2, api.OK, "10.4: Close")
	mustShow(t, n, "ab!|ab!|a!", "10.4: Close")
	n.Deliver(0)
	mustShow(t, n, "ab!|ab!|a!", "10.4: help that comes behind a Close")
	n = ending{"ab|ab|a", []int{0, 0, 0, 0, 6}, 2, 0, "ab!|ab!|a!", 5}.mustHold(t, Close, "10.4: Close")
	n.Deliver(0)
	mustShow(t, n, "ab!|ab!|ab!", "10.4: help of a Close that comes late")
	n = ending{"ab|ab|ab", []int{0, 6}, 2, 0, "ab!|ab|ab!", 3}.mustHold(t, Close, "10.4: Close")
	n.Deliver(0)
	mustShow(t, n, "ab!|ab!|ab!", "10.4: a seal that comes late")
}

// TestWrongLoglets: refused ahead of any call.
func TestWrongLoglets(t *testing.T) {
	n := laid(t, "ab|a|")
	refuse := func(n *net.Net, l int) {
		why := fmt.Sprint("10: loglet ", l, " of ", n != nil)
		tail, e := Tail(n, l)
		mustTell(t, tail, e, 0, api.ErrArg, "10.3: Tail, "+why)
		tail, e = Close(n, l)
		mustTell(t, tail, e, 0, api.ErrArg, "10.4: Close, "+why)
		for _, at := range []int{-1, 0, 1, 256, 257} {
			v, e := Read(n, l, at)
			mustTell(t, len(v), e, 0, api.ErrArg, "10.5: Read, "+why)
			mustBe(t, Trim(n, l, at), api.ErrArg, "10.5: Trim, "+why)
		}
	}
	mustCall(t, n, 0, "10: wrong loglets", func() {
		for _, l := range noLogs {
			refuse(n, l)
			refuse(nil, l)
		}
		refuse(nil, 0)
		refuse(nil, log)
		refuse(nil, 16)
	})
	mustShow(t, n, "ab|a|", "10: wrong loglets")
	for _, l := range []int{0, 1, 16} {
		tail, e := Tail(n, l)
		mustTell(t, tail, e, 0, api.OK, "10.3: Tail of an empty loglet")
		tail, e = Close(n, l)
		mustTell(t, tail, e, 0, api.OK, "10.4: Close of an empty loglet")
		if got := shown(t, n, l); got != "!|!|!" {
			t.Fatalf("10.4: loglet %d has %s", l, got)
		}
	}
	mustShow(t, n, "ab|a|", "10: other loglets")
}

// TestPowerThatGoesInHelp: the node that is helped is away; the next ones are helped.
func TestPowerThatGoesInHelp(t *testing.T) {
	for _, l := range losses(1) {
		for _, c := range []struct {
			armed int
			then  string
		}{
			{1, "abc|.|abc"}, {2, "abc|abc|."}, {0, "abc|abc|abc"}, // the foremost one writes nothing
		} {
			n := laid(t, "abc|a|")
			n.Arm(c.armed, l)
			tail, e := Tail(n, log)
			mustTell(t, tail, e, 3, api.OK, "10.3: power that goes in the help")
			mustShow(t, n, c.then, "10.3: power that goes in the help")
		}
		n := laid(t, "abc|a|")
		n.Arm(1, l)
		n.Arm(2, l)
		tail, e := Tail(n, log)
		mustTell(t, tail, e, 0, api.ErrTimeout, "10.3: power that goes in the help of both")
		mustShow(t, n, "abc|.|.", "10.3: power that goes in the help of both")
	}
	n := laid(t, "abc|a|")
	n.Arm(0, disk.Loss{After: 1, Torn: -1})
	tail, e := Close(n, log)
	mustTell(t, tail, e, 1, api.OK, "10.4: power that goes with the seal")
	mustShow(t, n, ".|a!|a!", "10.4: power that goes with the seal")
}
