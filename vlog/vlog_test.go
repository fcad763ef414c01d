package vlog

import (
	"fmt"
	"strings"
	"testing"

	"headland/api"
)

func TestExamples(t *testing.T) {
	c := newCast(t, 3)
	c.play(t, "12: an example", []line{
		{"", "a append x", "0", "0: @0 +"},
		{"", "b append y", "error 41", "0: @0"},
		{"", "b tail", "1", "0: @0"},
		{"", "b change", "ok", "1: 1@0 @1 +"},
		{"", "b append y", "1", ""},
		{"", "a append z", "error 30", "0: @0 +"},
		{"", "a tail", "2", "1: 1@0 @1"},
		{"", "a read 1", "y", ""},
	})
}

func TestNew(t *testing.T) {
	n := netOf(t, 3, blocks)
	for _, first := range []bool{false, true} {
		for who := range 4 {
			want := "0: @0"
			if first {
				want = "0: @0 +" // also of one that is not the segment's owner
			}
			mustKnow(t, newLog(t, n, who, first), want, fmt.Sprintf("12.1: New(%d, %v)", who, first))
			if v, e := New(nil, who, first); v != nil || e != api.ErrArg {
				t.Errorf("12.1: New of no net: %v, %d", v, e)
			}
		}
		for _, who := range noServers {
			if v, e := New(n, who, first); v != nil || e != api.ErrArg {
				t.Errorf("12.1: New(%d, %v): %v, %d", who, first, v, e)
			}
			if v, e := New(nil, who, first); v != nil || e != api.ErrArg {
				t.Errorf("12.1: New of no net by %d: %v, %d", who, v, e)
			}
		}
	}
}

// TestAsksNobody: what a Log knows it tells without a call.
func TestAsksNobody(t *testing.T) {
	n := netOf(t, 3, blocks)
	accept(t, n, 1, "0@0 @1")
	lay(t, n, 0, "!|!|!")
	crashAll(n)
	mustCall(t, n, 0, "12.1: New, Version, Chain, Owner, Owns", func() {
		mustKnow(t, newLog(t, n, 0, true), "0: @0 +", "12.1: New")
		mustKnow(t, newLog(t, n, 1, false), "0: @0", "12.1: New")
	})
}

// TestWriters: New with first writes the loglet 0, from its beginning on, and New without it never does.
func TestWriters(t *testing.T) {
	start := func(who int, first bool) func() *cast {
		return func() *cast {
			c := newCast(t, 3)
			c.logs[who] = newLog(t, c.n, who, first)
			return c
		}
	}
	for who, letter := range []string{"a", "b", "c", "d"} {
		if got := asked(t, "", start(who, true), letter+" append x"); got != "0 write 0 0 x, 1 write 0 0 x, 2 write 0 0 x" {
			t.Errorf("12.1: Append of one that was made with first: %s", got)
		}
		if got := asked(t, "", start(who, false), letter+" append x"); got != "" {
			t.Errorf("12.1: Append of one that was made without first: %s", got)
		}
	}
	c := newCast(t, 3)
	other := newLog(t, c.n, 0, true) // each has a Writer of its own
	mustTell(t, told(t, c.logs[0], "append x"), "0", "12.2: Append")
	mustTell(t, told(t, c.logs[0], "append y"), "1", "12.2: Append")
	mustTell(t, told(t, other, "append z"), "0", "12.1: a new Writer")
	mustTell(t, told(t, other, "read 0"), "x", "8.1: what is written stays")
}

func TestRefresh(t *testing.T) {
	for _, c := range []struct {
		versions []int // that are decided
		weather  string
		do       string
		told     string
		knows    string
		calls    int
	}{
		// A version of which nothing is known.
		{nil, "", "a refresh", "ok", "0: @0 +", 3},
		{nil, "", "b refresh", "ok", "0: @0", 3},
		{nil, "4", "a refresh", "ok", "0: @0 +", 3},
		{nil, "000 ", "d refresh", "ok", "0: @0", 3},
		{[]int{2, 3}, "", "a refresh", "ok", "0: @0 +", 3}, // nothing is known of the next one
		// Later ones.
		{[]int{1}, "", "a refresh", "ok", "1: " + long(1), 9},
		{[]int{1}, "", "d refresh", "ok", "1: " + long(1), 9},
		{[]int{1, 2}, "", "a refresh", "ok", "2: " + long(2), 15},
		{[]int{1, 2, 3, 4, 5}, "", "b refresh", "ok", "5: " + long(5), 33},
		{[]int{1, 2, 4, 5}, "", "c refresh", "ok", "2: " + long(2), 15},
		{[]int{1, 2, 3, 4, 5, 6, 7, 8, 9, 10, 11, 12, 13, 14, 15}, "", "c refresh", "ok", "15: " + long(15), 93},
		{[]int{1, 2, 3, 4, 5, 6, 7, 8, 9, 10, 11, 12, 13, 14, 15, 16}, "", "a refresh", "ok", "16: " + long(16), 96}, // there is no 17
		{[]int{1, 2}, "040 500 060 070 000", "b refresh", "ok", "2: " + long(2), 15},
		// What meta.Learn refuses: what was learnt so far stays.
		{nil, "444 444 444", "a refresh", "error 40", "0: @0 +", 9},
		{[]int{1}, "440 444 446", "a refresh", "error 40", "0: @0 +", 9},
		{[]int{1}, "000 000 444 404 444", "a refresh", "error 40", "1: " + long(1), 15},
		{[]int{1, 2, 3}, "000 000 000 000 444 444 444", "b refresh", "error 40", "2: " + long(2), 21},
		{[]int{1, 2, 3}, "000 000 000 444 000 444 000 444", "b refresh", "error 40", "1: " + long(1), 24},
		{[]int{1, 2}, "000 000 000 444 000 444 000 000", "b refresh", "ok", "2: " + long(2), 27},
	} {
		cast := newCast(t, 3)
		for _, v := range c.versions {
			accept(t, cast.n, v, long(v))
		}
		cast.n.Weather(numbers(c.weather)...)
		why := fmt.Sprint("12.2: ", c.do, " of ", c.versions, " in ", c.weather)
		mustCall(t, cast.n, c.calls, why, func() { mustTell(t, cast.do(t, c.do), c.told, why) })
		mustKnow(t, cast.of(c.do[0]), c.knows, why)
	}
}

// TestRefreshCalls: which version is asked for, by whom, in which order.
func TestRefreshCalls(t *testing.T) {
	start := func() *cast {
		c := newCast(t, 3)
		accept(t, c.n, 1, "2@0 @3")
		accept(t, c.n, 2, "2@0 1@3 @1", 1)
		return c
	}
	want := "0 prepare 1 7, 1 prepare 1 7, 2 prepare 1 7, 0 accept 1 7 2@0 @3, 1 accept 1 7 2@0 @3, 2 accept 1 7 2@0 @3, " +
		"0 prepare 2 7, 1 prepare 2 7, 2 prepare 2 7, 0 accept 2 7 2@0 1@3 @1, 1 accept 2 7 2@0 1@3 @1, 2 accept 2 7 2@0 1@3 @1, " +
		"0 prepare 3 7, 1 prepare 3 7, 2 prepare 3 7"
	if got := asked(t, "", start, "c refresh"); got != want {
		t.Errorf("12.2: the calls of Refresh are\n%s; not\n%s", got, want)
	}
}

// TestRefreshAtTheLast: at the version 16 nobody is asked.
func TestRefreshAtTheLast(t *testing.T) {
	c := newCast(t, 1)
	for v := 1; v <= 15; v++ {
		accept(t, c.n, v, long(v))
	}
	c.play(t, "12.2", []line{{"", "b refresh", "ok", "15: " + long(15)}})
	decide(t, c.n, 16, long(16))
	c.play(t, "12.2", []line{{"", "b refresh", "ok", "16: " + long(16)}})
	for range 2 {
		mustCall(t, c.n, 0, "12.2: Refresh at 16", func() { mustTell(t, c.do(t, "b refresh"), "ok", "12.2: Refresh at 16") })
		crashAll(c.n)
	}
	mustKnow(t, c.logs[1], "16: "+long(16), "12.2: Refresh at 16")
	mustTell(t, c.do(t, "c refresh"), "error 40", "12.2: Refresh without nodes")
}

// TestRefreshOfOthers: what was accepted without being a chain is refused as meta refuses it.
func TestRefreshOfOthers(t *testing.T) {
	for _, one := range []struct {
		bytes string
		err   string
	}{
		{"\x3f", "error 11"}, {"\x00", "error 11"}, {"\x12", "error 11"}, {"\x02\x00\x01", "error 10"}, {"\x01\x04", "error 11"}, {"\x01\x00\x00", "error 11"}, {"", "error 10"},
	} {
		c := newCast(t, 3)
		acceptBytes(t, c.n, 1, []byte(one.bytes))
		c.play(t, "12.2: the first", []line{{"", "a refresh", one.err, "0: @0 +"}, {"", "b change", one.err, "0: @0"}, {"", "a append x", "0", "0: @0 +"}})
		c = newCast(t, 3)
		accept(t, c.n, 1, "5@0 @2")
		acceptBytes(t, c.n, 2, []byte(one.bytes), 1)
		c.play(t, "12.2: the second", []line{{"", "a refresh", one.err, "1: 5@0 @2"}, {"", "a append x", "error 41", "1: 5@0 @2"}})
	}
}

// TestRefreshOfAFew: what one node alone accepted is brought to the end by whoever hears it.
func TestRefreshOfAFew(t *testing.T) {
	c := newCast(t, 3)
	accept(t, c.n, 1, "3@0 @2", 1)
	c.play(t, "12.2", []line{
		{"040", "a refresh", "ok", "0: @0 +"}, // it did not hear it
		{"", "b refresh", "ok", "1: 3@0 @2"},
		{"", "a refresh", "ok", "1: 3@0 @2"},
		{"040", "c refresh", "ok", "1: 3@0 @2"},
	})
}

// TestRefreshOfItsOwn: a server whose Change was refused learns that its chain was decided all the same. It did not make that loglet's Writer, and nobody has one.
func TestRefreshOfItsOwn(t *testing.T) {
	c := newCast(t, 3)
	c.play(t, "12.2", []line{
		{"", "a append x", "0", ""},
		{"000 000 000 000 555 444", "b change", "error 40", "0: @0"},
		{"", "b refresh", "ok", "1: 1@0 @1"},
		{"", "b append y", "error 41", "1: 1@0 @1"},
		{"", "a refresh", "ok", "1: 1@0 @1"},
		{"", "b change", "ok", "2: 1@0 0@1 @1 +"},
		{"", "b append y", "1", ""},
		{"000 000 000 000 555 444", "b change", "error 40", "2: 1@0 0@1 @1 +"},
		{"", "b append z", "error 30", "2: 1@0 0@1 @1 +"},
		{"", "b refresh", "ok", "3: 1@0 0@1 1@1 @1"},
		{"", "b append z", "error 41", "3: 1@0 0@1 1@1 @1"},
		{"", "b change", "ok", "4: 1@0 0@1 1@1 0@1 @1 +"},
		{"", "b append z", "2", ""},
	})
}

func TestAppend(t *testing.T) {
	c := newCast(t, 3)
	c.play(t, "12.2", []line{
		{"", "a append x", "0", "0: @0 +"},
		{"", "a append", "1", "0: @0 +"},
		{"", "a append #1800", "2", "0: @0 +"},
		{"", "a append #1801", "error 3", "0: @0 +"},
		{"4", "a append y", "3", "0: @0 +"},
		{"0 44", "a append z", "error 40", "0: @0 +"}, // it stays in the row
		{"44", "a append w", "error 40", "0: @0 +"},   // and this is not taken
		{"", "a append w", "5", "0: @0 +"},
		{"", "a read 4", "z", ""},
		{"", "a read 5", "w", ""},
		{"", "b append y", "error 41", "0: @0"},
		{"", "b append #1801", "error 41", "0: @0"}, // who does not own is told that first
	})
	mustShow(t, c.n, 0, "x#1800yzw|x#1800yzw|x#1800yzw", "12.2: Append")
	crashAll(c.n)
	mustCall(t, c.n, 0, "12.2: Append of one that does not own", func() { mustTell(t, c.do(t, "c append x"), "error 41", "12.2: Append") })
	mustTell(t, c.do(t, "a append x"), "error 40", "12.2: Append without nodes")
}

// TestAppendBehindChanges: a position goes on from segment to segment.
func TestAppendBehindChanges(t *testing.T) {
	c := newCast(t, 3)
	c.play(t, "12.2", []line{
		{"", "a append u", "0", ""},
		{"", "a append v", "1", ""},
		{"", "b change", "ok", "1: 2@0 @1 +"},
		{"", "b append w", "2", "1: 2@0 @1 +"},
		{"", "b append x", "3", ""},
		{"", "b append y", "4", ""},
		{"", "c change", "ok", "2: 2@0 3@1 @2 +"},
		{"", "d change", "ok", "3: 2@0 3@1 0@2 @3 +"},
		{"", "d append z", "5", ""},
		{"", "d change", "ok", "4: 2@0 3@1 0@2 1@3 @3 +"},
		{"", "d append 1", "6", ""},
		{"", "a change", "ok", "5: 2@0 3@1 0@2 1@3 1@3 @0 +"},
		{"", "a append 2", "7", ""},
		{"", "a append 3", "8", ""},
		// Whose loglet was sealed by another one:
		{"", "b append -", "error 30", "1: 2@0 @1 +"},
		{"", "c append -", "error 30", "2: 2@0 3@1 @2 +"},
		{"", "d append -", "error 30", "4: 2@0 3@1 0@2 1@3 @3 +"},
		{"", "b append -", "error 30", "1: 2@0 @1 +"},
		{"", "b refresh", "ok", "5: 2@0 3@1 0@2 1@3 1@3 @0"},
		{"", "b append -", "error 41", "5: 2@0 3@1 0@2 1@3 1@3 @0"},
		{"", "a new", "ok", "0: @0"},
		{"", "a refresh", "ok", "5: 2@0 3@1 0@2 1@3 1@3 @0"},
		{"", "a append -", "error 41", "5: 2@0 3@1 0@2 1@3 1@3 @0"}, // the owner, but in another life
		{"", "a tail", "9", ""},
	})
	for log, want := range []string{"uv!", "wxy!", "!", "z!", "1!", "23"} {
		mustShow(t, c.n, log, strings.Join([]string{want, want, want}, "|"), "12.2: Append")
	}
}

// TestAppendWhereSomeAreSealed: a majority that is not sealed takes it, once.
func TestAppendWhereSomeAreSealed(t *testing.T) {
	c := newCast(t, 3)
	c.play(t, "12.2", []line{
		{"000 044 ", "b change", "error 40", "0: @0"},
		{"", "a append x", "0", "0: @0 +"},
		{"", "a append y", "error 30", "0: @0 +"},
		{"", "a tail", "error 30", "0: @0 +"},
		{"000 000 440", "b change", "error 40", "0: @0"},
		{"", "b change", "ok", "1: 1@0 @1 +"},
	})
}

// TestAppendOfMany: a loglet has 256 slots, and the next one goes on behind them.
func TestAppendOfMany(t *testing.T) {
	c := castOf(t, netOf(t, 1, 300))
	for i := range 256 {
		mustTell(t, c.do(t, "a append x"), fmt.Sprint(i), "12.2: Append")
	}
	c.play(t, "12.2", []line{
		{"", "a append y", "error 2", "0: @0 +"},
		{"", "a tail", "256", "0: @0 +"},
		{"", "a change", "ok", "1: 256@0 @0 +"},
		{"", "a append y", "256", ""},
		{"", "a read 255", "x", ""},
		{"", "a read 256", "y", ""},
		{"", "b tail", "257", "1: 256@0 @0"},
		{"", "b trim 257", "ok", ""},
		{"", "b read 256", "error 31", ""},
		{"", "b tail", "257", ""},
	})
}
