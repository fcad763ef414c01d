package vlog

import (
	"fmt"
	"testing"

	"headland/api"
)

func TestTail(t *testing.T) {
	one := []string{"2@0 @1"}
	two := []string{"2@0 @1", "2@0 3@1 @2"}
	for _, c := range []struct {
		rows    []string
		chains  []string
		weather string
		do      string
		told    string
		knows   string
		calls   int
	}{
		// Of an open loglet.
		{nil, nil, "", "a tail", "0", "0: @0 +", 3},
		{[]string{"ab|ab|ab"}, nil, "", "b tail", "2", "0: @0", 3},
		{[]string{"ab|ab|a"}, nil, "", "b tail", "2", "0: @0", 5},
		{[]string{"ab|a|a"}, nil, "", "a tail", "2", "0: @0 +", 7},
		{[]string{"ab|a|a"}, nil, "4", "a tail", "1", "0: @0 +", 3},
		{[]string{"ab|ab|ab"}, one, "", "b tail", "2", "0: @0", 3}, // that there is a later one is of no account, as long as this one is open
		// loglet.Tail refuses.
		{[]string{"ab|ab|ab"}, one, "440", "a tail", "error 40", "0: @0 +", 3},
		{[]string{"ab|a|a"}, one, "000 44", "a tail", "error 40", "0: @0 +", 5},
		{[]string{"ab.|ab.|ab"}, one, "", "b tail", "error 40", "0: @0", 3},
		{[]string{"ab!|ab!|ab!"}, one, "554", "a tail", "error 40", "0: @0 +", 3},
		// Of a sealed one without a later version.
		{[]string{"ab!|ab!|ab!"}, nil, "", "a tail", "error 30", "0: @0 +", 6},
		{[]string{"ab!|ab!|ab!"}, nil, "", "c tail", "error 30", "0: @0", 6},
		{[]string{"ab|ab!|ab"}, nil, "", "c tail", "error 30", "0: @0", 6},
		{[]string{"ab|ab!|ab"}, nil, "04", "c tail", "2", "0: @0", 3},
		{[]string{"ab!|ab!|ab!"}, []string{"", "2@0 0@0 @1"}, "", "c tail", "error 30", "0: @0", 6},
		{[]string{"ab!|ab!|ab!"}, []string{"1/2@0 @1"}, "000 040", "c tail", "error 30", "0: @0", 6}, // of which nobody tells it
		// Of a sealed one with a later version.
		{[]string{"ab!|ab!|ab!", "cd|cd|cd"}, one, "", "a tail", "4", "1: 2@0 @1", 15},
		{[]string{"ab!|ab!|ab!", "cd|cd|c"}, one, "", "d tail", "4", "1: 2@0 @1", 17},
		{[]string{"ab!|ab!|ab!"}, one, "", "a tail", "2", "1: 2@0 @1", 15},
		{[]string{"ab|ab!|ab", "c|c|c"}, one, "", "a tail", "3", "1: 2@0 @1", 15},
		{[]string{"ab!|ab!|ab!"}, []string{"1/2@0 @1"}, "", "c tail", "2", "1: 2@0 @1", 15},
		{[]string{"ab!|ab!|ab!", "cde!|cde!|cde!", "f|f|f"}, two, "", "a tail", "6", "2: 2@0 3@1 @2", 21},
		{[]string{"ab!|ab!|ab!", "cde|cde|cde", "f|f|f"}, two, "", "a tail", "6", "2: 2@0 3@1 @2", 21}, // the last one alone is asked
		{[]string{"abc!|abc!|abc!", "x|x|x"}, one, "", "b tail", "3", "1: 2@0 @1", 15},                 // the chain says where it ends
		// The later one's loglet refuses, or is sealed.
		{[]string{"ab!|ab!|ab!", "cd|cd|cd"}, one, "000 000 000 000 404", "a tail", "error 40", "1: 2@0 @1", 15},
		{[]string{"ab!|ab!|ab!", "cd!|cd!|cd!"}, one, "", "a tail", "error 30", "1: 2@0 @1", 21},
		// Refresh refuses.
		{[]string{"ab!|ab!|ab!"}, nil, "000 444 444 444", "a tail", "error 40", "0: @0 +", 12},
		{[]string{"ab!|ab!|ab!"}, one, "000 444 444 444", "a tail", "error 40", "0: @0 +", 12},
		{[]string{"ab!|ab!|ab!"}, one, "000 000 000 444 444 444", "a tail", "error 40", "1: 2@0 @1", 18}, // it is later, but refused
		{[]string{"ab!|ab!|ab!"}, []string{"0/?"}, "", "a tail", "error 11", "0: @0 +", 9},
		{[]string{"ab!|ab!|ab!"}, []string{"2@0 @1", "0/?"}, "", "a tail", "error 11", "1: 2@0 @1", 15},
	} {
		cast := set(t, c.rows, c.chains)
		cast.n.Weather(numbers(c.weather)...)
		why := fmt.Sprint("12.3: ", c.do, " of ", c.rows, " and ", c.chains, " in ", c.weather)
		mustCall(t, cast.n, c.calls, why, func() { mustTell(t, cast.do(t, c.do), c.told, why) })
		mustKnow(t, cast.of(c.do[0]), c.knows, why)
	}
}

// TestTailFourTimes: each Refresh learns one version alone, whose loglet is sealed too. Of the next version the one node that has it is not heard at first.
func TestTailFourTimes(t *testing.T) {
	chains := []string{"2/1@0 @1", "2/1@0 1@1 @2", "2/1@0 1@1 1@2 @3", "2/1@0 1@1 1@2 1@3 @0", "2/1@0 1@1 1@2 1@3 1@0 @1"}
	sealed, open := "x!|x!|x!", "x|x|x"
	const (
		first = "000 " + "000 000 004 "     // a loglet's state; the next version is told and accepted, of the one behind it nothing is heard
		again = "000 " + "000 000 000 004 " // likewise, but the first ballot was promised already
	)
	for _, c := range []struct {
		rows    []string
		weather string
		told    string
		knows   string
		calls   int
	}{
		{[]string{sealed, open}, first, "2", "1: 1@0 @1", 15},
		{[]string{sealed, sealed, open}, first + again, "3", "2: 1@0 1@1 @2", 30},
		{[]string{sealed, sealed, sealed, open}, first + again + again, "4", "3: 1@0 1@1 1@2 @3", 45},
		// Four of them are sealed: it does not ask the fifth, which is open.
		{[]string{sealed, sealed, sealed, sealed, open}, first + again + again + again, "error 40", "4: 1@0 1@1 1@2 1@3 @0", 57},
		// At the fourth time, as at each other.
		{[]string{sealed, sealed, sealed, sealed}, first + again + again + "000 444 444 444", "error 40", "3: 1@0 1@1 1@2 @3", 54},
		{[]string{sealed, sealed, sealed, sealed}, first + again + again + "000 000 004", "error 30", "3: 1@0 1@1 1@2 @3", 51},
		{[]string{sealed, sealed, sealed, open}, first + again + again + "044", "error 40", "3: 1@0 1@1 1@2 @3", 45},
	} {
		cast := set(t, c.rows, chains)
		cast.n.Weather(numbers(c.weather)...)
		why := fmt.Sprint("12.3: Tail of ", c.rows, " in ", c.weather)
		mustCall(t, cast.n, c.calls, why, func() { mustTell(t, cast.do(t, "a tail"), c.told, why) })
		mustKnow(t, cast.logs[0], c.knows, why)
	}
	c := set(t, []string{sealed, sealed, sealed, sealed, open}, chains)
	c.play(t, "12.3: once more", []line{
		{first + again + again + again, "a tail", "error 40", "4: 1@0 1@1 1@2 1@3 @0"},
		{"", "a tail", "5", "4: 1@0 1@1 1@2 1@3 @0"},
		{"", "a refresh", "ok", "5: 1@0 1@1 1@2 1@3 1@0 @1"},
	})
}

// TestTailCalls: which loglet is asked, in which order with Refresh.
func TestTailCalls(t *testing.T) {
	start := func() *cast {
		return set(t, []string{"ab!|ab|ab", "c|cd|cd"}, []string{"2@0 @1"})
	}
	want := "0 state 0, 1 state 0, 2 state 0, 0 prepare 1 8, 1 prepare 1 8, 2 prepare 1 8, 0 accept 1 8 2@0 @1, 1 accept 1 8 2@0 @1, 2 accept 1 8 2@0 @1, " +
		"0 prepare 2 8, 1 prepare 2 8, 2 prepare 2 8, 0 state 1, 1 state 1, 2 state 1, 1 read 1 1, 0 write 1 1 d"
	if got := asked(t, "", start, "d tail"); got != want {
		t.Errorf("12.3: the calls of Tail are\n%s; not\n%s", got, want)
	}
}

// TestTailAtTheLast: a sealed loglet of the version 16 has no later one, and nobody is asked for it.
func TestTailAtTheLast(t *testing.T) {
	c := castOf(t, netOf(t, 1, 64))
	for v := 1; v <= 16; v++ {
		accept(t, c.n, v, long(v))
	}
	mustTell(t, c.do(t, "b refresh"), "ok", "12.2: Refresh")
	lay(t, c.n, 16, "xy")
	mustCall(t, c.n, 1, "12.3: Tail at 16", func() { mustTell(t, c.do(t, "b tail"), "122", "12.3: Tail at 16") })
	mustTell(t, c.do(t, "b read 121"), "y", "12.4: Read at 16")
	mustDo(t, c.n, 0, api.Request{Kind: api.RSeal, Log: 16})
	mustCall(t, c.n, 1, "12.3: Tail at 16", func() { mustTell(t, c.do(t, "b tail"), "error 30", "12.3: Tail of what is sealed at 16") })
	mustKnow(t, c.logs[1], "16: "+long(16), "12.3: Tail at 16")
}
