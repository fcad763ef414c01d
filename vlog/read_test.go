package vlog

import (
	"fmt"
	"math"
	"strings"
	"testing"
)

// segments is a log of five: two positions of the loglet 0, none of the loglet 1, three of the loglet 2, none of the loglet 3, and two so far of the loglet 4. The first and the third have a slot more than the chain says.
func segments(t *testing.T) *cast {
	t.Helper()
	rows := []string{"abx!|ab!|ab!", "!|!|!", "cdey!|cde!|cde!", "!|!|!", "fg|fg|fg"}
	c := set(t, rows, []string{"2@0 @1", "2@0 0@1 @2", "2@0 0@1 3@2 @3", "2@0 0@1 3@2 0@3 @0"})
	mustTell(t, c.do(t, "b refresh"), "ok", "12.2: Refresh")
	mustKnow(t, c.logs[1], "4: 2@0 0@1 3@2 0@3 @0", "12.2: Refresh")
	return c
}

func TestRead(t *testing.T) {
	for pos, want := range []struct {
		value string
		call  string
	}{
		{"a", "0 read 0 0"}, {"b", "0 read 0 1"}, {"c", "0 read 2 0"}, {"d", "0 read 2 1"}, {"e", "0 read 2 2"}, {"f", "0 read 4 0"}, {"g", "0 read 4 1"},
	} {
		do := fmt.Sprint("b read ", pos)
		c := segments(t)
		mustCall(t, c.n, 1, "12.4: "+do, func() { mustTell(t, c.do(t, do), want.value, "12.4: "+do) })
		if got := asked(t, "", func() *cast { return segments(t) }, do); got != want.call {
			t.Errorf("12.4: %s: the calls are %s; not %s", do, got, want.call)
		}
	}
	// What was not told.
	for _, pos := range []int{7, 8, 262, 263, 1 << 40, math.MaxInt} {
		do := fmt.Sprint("b read ", pos)
		c := segments(t)
		mustCall(t, c.n, 3, "12.4: "+do, func() { mustTell(t, c.do(t, do), "error 4", "12.4: "+do) })
		call := fmt.Sprintf("0 read 4 %d, 1 read 4 %d, 2 read 4 %d", pos-5, pos-5, pos-5)
		if got := asked(t, "", func() *cast { return segments(t) }, do); got != call {
			t.Errorf("12.4: %s: the calls are %s; not %s", do, got, call)
		}
	}
}

func TestReadOfNoPosition(t *testing.T) {
	c := segments(t)
	for _, pos := range []int{-1, -2, -262, math.MinInt} {
		do := fmt.Sprint("b read ", pos)
		mustCall(t, c.n, 0, "12.4: "+do, func() { mustTell(t, c.do(t, do), "error 1", "12.4: "+do) })
	}
	crashAll(c.n)
	mustTell(t, c.do(t, "b read -1"), "error 1", "12.4: Read without nodes")
	mustTell(t, c.do(t, "b read 0"), "error 40", "12.4: Read without nodes")
}

// TestReadRefused: what loglet.Read refuses is told.
func TestReadRefused(t *testing.T) {
	for _, c := range []struct {
		weather string
		do      string
		told    string
	}{
		{"444", "b read 0", "error 40"}, {"456", "b read 4", "error 40"}, {"454", "b read 6", "error 40"}, {"04", "b read 7", "error 4"}, {"044", "b read 7", "error 40"},
		{"44", "b read 0", "a"}, {"7", "b read 1", "b"}, {"5", "b read 5", "f"},
	} {
		cast := segments(t)
		cast.n.Weather(numbers(c.weather)...)
		why := fmt.Sprint("12.4: ", c.do, " in ", c.weather)
		mustTell(t, cast.do(t, c.do), c.told, why)
		mustKnow(t, cast.logs[1], "4: 2@0 0@1 3@2 0@3 @0", why)
	}
	c := set(t, []string{"--c!|--c!|--c!", "-|-|-"}, []string{"3@0 @1"})
	c.play(t, "12.4", []line{
		{"", "b refresh", "ok", "1: 3@0 @1"},
		{"", "b read 0", "error 31", ""},
		{"", "b read 1", "error 31", ""},
		{"", "b read 2", "c", ""},
		{"", "b read 3", "error 31", ""},
		{"", "b read 4", "error 4", ""},
	})
}

// TestReadByWhatIsKnown: a Log reads by the chain that it knows, and learns none by it.
func TestReadByWhatIsKnown(t *testing.T) {
	c := segments(t)
	c.play(t, "12.4", []line{
		{"", "a read 1", "b", "0: @0 +"},
		{"", "a read 2", "x", "0: @0 +"}, // behind the loglet's end
		{"", "a read 3", "error 4", "0: @0 +"},
		{"", "a tail", "7", "4: 2@0 0@1 3@2 0@3 @0"},
		{"", "a read 2", "c", "4: 2@0 0@1 3@2 0@3 @0"},
		{"", "a read 5", "f", "4: 2@0 0@1 3@2 0@3 @0"},
	})
	c = set(t, []string{"a|ab|a"}, nil) // b was not told, and it may be read or not
	c.play(t, "12.4", []line{
		{"", "c read 1", "b", "0: @0"},
		{"04", "c read 1", "error 4", "0: @0"},
		{"", "c tail", "2", "0: @0"},
		{"44", "c read 1", "b", "0: @0"},
	})
}

func TestTrim(t *testing.T) {
	for _, c := range []struct {
		below   int
		weather string
		told    string
		calls   string // of the node 0 alone
		gone    int    // so many first positions are trimmed
	}{
		{-1, "", "error 1", "", 0},
		{math.MinInt, "", "error 1", "", 0},
		{0, "", "ok", "", 0},
		{1, "", "ok", "0 trim 0 1", 1},
		{2, "", "ok", "0 trim 0 2", 2}, // an end: the segments that begin there are not asked
		{3, "", "ok", "0 trim 0 2, 0 trim 1 0, 0 trim 2 1", 3},
		{4, "", "ok", "0 trim 0 2, 0 trim 1 0, 0 trim 2 2", 4},
		{5, "", "ok", "0 trim 0 2, 0 trim 1 0, 0 trim 2 3", 5},
		{6, "", "ok", "0 trim 0 2, 0 trim 1 0, 0 trim 2 3, 0 trim 3 0, 0 trim 4 1", 6},
		{7, "", "ok", "0 trim 0 2, 0 trim 1 0, 0 trim 2 3, 0 trim 3 0, 0 trim 4 2", 7},
		// Above the tail: the loglet refuses it, what lies ahead of it is done.
		{8, "", "error 40", "0 trim 0 2, 0 trim 1 0, 0 trim 2 3, 0 trim 3 0, 0 trim 4 3", 5},
		{261, "", "error 40", "0 trim 0 2, 0 trim 1 0, 0 trim 2 3, 0 trim 3 0, 0 trim 4 256", 5},
		{262, "", "error 1", "0 trim 0 2, 0 trim 1 0, 0 trim 2 3, 0 trim 3 0", 5}, // more than a loglet can have
		{math.MaxInt, "", "error 1", "0 trim 0 2, 0 trim 1 0, 0 trim 2 3, 0 trim 3 0", 5},
		// Refused on the way: the first refusal ends it.
		{1, "444", "error 40", "0 trim 0 1", 0},
		{1, "554", "error 40", "0 trim 0 1", -1},
		{1, "4", "ok", "0 trim 0 1", -1},
		{7, "444", "error 40", "0 trim 0 2", 0},
		{7, "000 444", "error 40", "0 trim 0 2, 0 trim 1 0", 2},
		{7, "000 000 444", "error 40", "0 trim 0 2, 0 trim 1 0, 0 trim 2 3", 2},
		{7, "000 000 000 466", "error 40", "0 trim 0 2, 0 trim 1 0, 0 trim 2 3, 0 trim 3 0", 5},
		{7, "000 000 000 000 464", "error 40", "0 trim 0 2, 0 trim 1 0, 0 trim 2 3, 0 trim 3 0, 0 trim 4 2", 5},
	} {
		do := fmt.Sprint("b trim ", c.below)
		why := fmt.Sprint("12.6: ", do, " in ", c.weather)
		now := segments(t)
		now.n.Weather(numbers(c.weather)...)
		mustTell(t, now.do(t, do), c.told, why)
		mustKnow(t, now.logs[1], "4: 2@0 0@1 3@2 0@3 @0", why)
		if got := ofNode0(asked(t, c.weather, func() *cast { return segments(t) }, do)); got != c.calls {
			t.Errorf("%s: the calls are %s; not %s", why, got, c.calls)
		}
		mustBeGone(t, now, c.gone, why)
	}
}

// ofNode0 are the calls of the node 0, if each other node was asked for the same.
func ofNode0(calls string) string {
	if calls == "" {
		return ""
	}
	var l []string
	all := strings.Split(calls, ", ")
	for i := 0; i+2 < len(all); i += 3 {
		if all[i+1] != "1"+all[i][1:] || all[i+2] != "2"+all[i][1:] {
			return calls
		}
		l = append(l, all[i])
	}
	return strings.Join(l, ", ")
}

// mustBeGone says that so many first positions of the log of five are trimmed, and others are read; -1: nobody can say.
func mustBeGone(t *testing.T, c *cast, gone int, why string) {
	t.Helper()
	calm(c.n)
	for pos, value := range "abcdefg" {
		want := string(value)
		if pos < gone {
			want = "error 31"
		}
		if gone >= 0 {
			do := fmt.Sprint("b read ", pos)
			mustTell(t, c.do(t, do), want, why+", "+do)
		}
	}
	mustTell(t, c.do(t, "b tail"), "7", why+", the tail")
}

// TestTrimTwice: what is trimmed stays so, and a Log trims by the chain that it knows.
func TestTrimTwice(t *testing.T) {
	c := segments(t)
	c.play(t, "12.6", []line{
		{"", "b trim 4", "ok", ""},
		{"", "b trim 4", "ok", ""},
		{"", "b trim 1", "ok", ""},
		{"", "b trim 0", "ok", ""},
		{"", "b read 3", "error 31", ""},
		{"", "b read 4", "e", ""},
		{"", "a trim 3", "error 40", "0: @0 +"}, // of the loglet 0 one node alone has so many slots
		{"", "a trim 2", "ok", "0: @0 +"},
		{"", "a trim 257", "error 1", "0: @0 +"},
		{"", "a trim 256", "error 40", "0: @0 +"},
		{"", "c trim 1", "ok", "0: @0"},
		{"", "b trim 7", "ok", ""},
		{"", "b read 6", "error 31", ""},
		{"", "b read 7", "error 4", ""},
		{"", "b tail", "7", ""},
	})
	crashAll(c.n)
	c.play(t, "12.6: without nodes", []line{{"", "b trim -1", "error 1", ""}, {"", "b trim 0", "ok", ""}, {"", "b trim 1", "error 40", ""}})
}
