package loglet

import (
	"fmt"
	"math"
	"testing"

	"headland/api"
	"headland/net"
)

func TestRead(t *testing.T) {
	for _, c := range []struct {
		rows    string
		weather []int
		at      int
		want    string
		err     api.Errno
		calls   int
	}{
		{"ab|ab|ab", nil, 0, "a", 0, 1},
		{"ab|ab|ab", nil, 1, "b", 0, 1},
		{"ab|ab|ab", nil, 2, "", api.ErrNone, 3},
		{"||", nil, 0, "", api.ErrNone, 3},
		{"ab|ab|ab", nil, 255, "", api.ErrNone, 3},
		{"ab|ab|ab", nil, 256, "", api.ErrNone, 3},
		{"ab|ab|ab", nil, math.MaxInt, "", api.ErrNone, 3},
		{"ab!|ab!|ab!", nil, 1, "b", 0, 1},
		{"ab|a|", []int{7}, 1, "b", 0, 1},
		{"|ab|", nil, 1, "b", 0, 2}, // till one has it
		{"||ab", nil, 1, "b", 0, 3},
		{"x|y|z", nil, 0, "x", 0, 1}, // the first one's
		{"x|y|z", []int{4}, 0, "y", 0, 2},
		{"x.|y.|z", nil, 0, "z", 0, 3},
		{"ab|ab|ab", []int{4, 5}, 1, "b", 0, 3}, // one that has it is enough
		{"ab|ab|ab", []int{4, 5, 6}, 1, "", api.ErrTimeout, 3},
		{"ab.|ab.|ab.", nil, 1, "", api.ErrTimeout, 3},
		{"a|a|a", []int{4}, 1, "", api.ErrNone, 3}, // a majority has none
		{"a|a|a", []int{4, 0, 5}, 1, "", api.ErrTimeout, 3},
		{"a|a.|a.", nil, 1, "", api.ErrTimeout, 3},
		{"a", nil, 1, "", api.ErrNone, 1},
		{"a|a", []int{0, 6}, 1, "", api.ErrTimeout, 2},
		{"a|a|a|a", []int{0, 6}, 1, "", api.ErrNone, 4},
		{"a|a|a|a", []int{0, 6, 4}, 1, "", api.ErrTimeout, 4},
		{"a|a|a|a|a", []int{0, 6, 4}, 1, "", api.ErrNone, 5},
		{"a|a|a|a|a", []int{0, 6, 4, 0, 4}, 1, "", api.ErrTimeout, 5},
		{"-b|ab|ab", nil, 0, "a", 0, 2}, // trimmed at one node, held at another
		{"-b|-b|ab", nil, 0, "a", 0, 3},
		{"--|ab|", nil, 1, "b", 0, 2},
		{"-b|-b|-b", nil, 0, "", api.ErrTrimmed, 3},
		{"-b|-b|-b", nil, 1, "b", 0, 1},
		{"-b|-b|-b", nil, 2, "", api.ErrNone, 3},
		{"-b||", nil, 0, "", api.ErrTrimmed, 3}, // one that has it trimmed is enough, ahead of those that have none
		{"||-b", nil, 0, "", api.ErrTrimmed, 3},
		{"-b|ab|ab", []int{0, 4, 4}, 0, "", api.ErrTrimmed, 3}, // and of those that are not taken
		{"-b|a|a", []int{4}, 0, "a", 0, 2},
		{"-b||", []int{4}, 0, "", api.ErrNone, 3},
		{"-b||", []int{4, 4}, 0, "", api.ErrTimeout, 3},
	} {
		why := fmt.Sprint("10.5: Read of ", c.rows, " in ", c.weather)
		n := laid(t, c.rows)
		was := shown(t, n, log)
		n.Weather(c.weather...)
		mustCall(t, n, c.calls, why, func() { mustRead(t, n, c.at, c.want, c.err, why) })
		mustShow(t, n, was, why)
	}
}

func TestReadBelow0(t *testing.T) {
	n := laid(t, "ab|ab|ab")
	mustCall(t, n, 0, "10.5: Read below 0", func() {
		for _, at := range []int{-1, -2, -256, math.MinInt} {
			mustRead(t, n, at, "", api.ErrArg, "10.5")
		}
	})
}

func TestReadOfAll(t *testing.T) {
	n := newNet(t, 3)
	w := newWriter(t, n)
	all := []string{longest, "", "a", "\x00", "some bytes\x00\xff"}
	mustAppend(t, w, all...)
	for at, v := range all {
		mustRead(t, n, at, v, api.OK, "10.5: all of it")
	}
	mustRead(t, n, len(all), "", api.ErrNone, "10.5: behind all of it")
}

func TestCallsOfReadAndTrim(t *testing.T) {
	of := func(rows string, op func(n *net.Net)) []string {
		return asked(t, nil, func() (*net.Net, func()) {
			n := laid(t, rows)
			return n, func() { op(n) }
		})
	}
	read := func(at int) func(n *net.Net) { return func(n *net.Net) { Read(n, log, at) } }
	mustAsk(t, of("ab|ab|ab", read(2)), "0 read 2, 1 read 2, 2 read 2", "10.5: Read")
	mustAsk(t, of("|ab|ab", read(1)), "0 read 1, 1 read 1", "10.5: Read")
	mustAsk(t, of("ab|a|", func(n *net.Net) { Trim(n, log, 1) }), "0 trim 1, 1 trim 1, 2 trim 1", "10.5: Trim")
}

func TestTrim(t *testing.T) {
	for _, c := range []struct {
		rows    string
		weather []int
		below   int
		err     api.Errno
		then    string
	}{
		{"abc|abc|abc", nil, 0, 0, "abc|abc|abc"},
		{"abc|abc|abc", nil, 1, 0, "-bc|-bc|-bc"},
		{"abc|abc|abc", nil, 3, 0, "---|---|---"},
		{"abc|abc|abc", nil, 4, api.ErrTimeout, "abc|abc|abc"},
		{"abc|abc|abc", nil, 256, api.ErrTimeout, "abc|abc|abc"},
		{"||", nil, 0, 0, "||"},
		{"||", nil, 1, api.ErrTimeout, "||"},
		{"abc!|abc!|abc!", nil, 2, 0, "--c!|--c!|--c!"},
		{"--c|-bc|abc", nil, 1, 0, "--c|-bc|-bc"}, // what is trimmed stays so
		{"abc|abc|a", nil, 2, 0, "--c|--c|a"},     // one that has not so many
		{"abc|ab|a", nil, 3, api.ErrTimeout, "---|ab|a"},
		{"abc|abc|abc", []int{4}, 1, 0, "abc|-bc|-bc"},
		{"abc|abc|abc", []int{4, 0, 4}, 1, api.ErrTimeout, "abc|-bc|abc"},
		{"abc|abc|abc", []int{5, 0, 5}, 1, api.ErrTimeout, "-bc|-bc|-bc"},
		{"abc|abc|abc", []int{6, 6, 6}, 1, api.ErrTimeout, "abc|abc|abc"},
		{"abc|abc|abc", []int{7, 7, 7}, 1, 0, "-bc|-bc|-bc"},
		{"abc.|abc|abc", nil, 1, 0, ".|-bc|-bc"},
		{"abc.|abc|abc.", nil, 1, api.ErrTimeout, ".|-bc|."},
		{"abc", nil, 1, 0, "-bc"},
		{"abc|abc", []int{4}, 1, api.ErrTimeout, "abc|-bc"},
		{"abc|abc|abc|abc", []int{4}, 1, 0, "abc|-bc|-bc|-bc"},
		{"abc|abc|abc|abc", []int{4, 4}, 1, api.ErrTimeout, "abc|abc|-bc|-bc"},
		{"abc|abc|abc|abc|abc", []int{4, 4}, 1, 0, "abc|abc|-bc|-bc|-bc"},
		{"abc|abc|abc|abc|abc", []int{4, 4, 4}, 1, api.ErrTimeout, "abc|abc|abc|-bc|-bc"},
	} {
		why := fmt.Sprint("10.5: Trim of ", c.rows, " at ", c.below, " in ", c.weather)
		n := laid(t, c.rows)
		n.Weather(c.weather...)
		mustCall(t, n, n.Nodes(), why, func() { mustBe(t, Trim(n, log, c.below), c.err, why) })
		mustShow(t, n, c.then, why)
	}
}

func TestTrimOfNoPlace(t *testing.T) {
	n := laid(t, "ab|ab|ab")
	mustCall(t, n, 0, "10.5: Trim of no place", func() {
		for _, below := range []int{math.MinInt, -256, -1, 257, 258, math.MaxInt} {
			mustBe(t, Trim(n, log, below), api.ErrArg, fmt.Sprint("10.5: Trim at ", below))
		}
	})
	mustShow(t, n, "ab|ab|ab", "10.5: Trim of no place")
}

// TestTrimOfMostSlots: 256 is a place, where there are so many.
func TestTrimOfMostSlots(t *testing.T) {
	n := netOf(t, 1, 300)
	w := newWriter(t, n)
	for range 256 {
		mustAppend(t, w, "")
	}
	mustBe(t, Trim(n, log, 256), api.OK, "10.5: Trim of all")
	mustRead(t, n, 255, "", api.ErrTrimmed, "10.5: all is trimmed")
	mustRead(t, n, 256, "", api.ErrNone, "10.5: behind all that is trimmed")
	tail, e := Tail(n, log)
	mustTell(t, tail, e, 256, api.OK, "10.3: Tail of what is trimmed")
}
