package vlog

import (
	"fmt"
	"testing"

	"headland/api"
)

// spoil turns all of what was told or handed in, its spare room too.
func spoil(b []byte) {
	b = b[:cap(b)]
	for i := range b {
		b[i] ^= 0xff
	}
}

func spoilChain(l []api.Segment) {
	l = l[:cap(l)]
	for i := range l {
		l[i] = api.Segment{Log: 7, Start: -7, End: 7, Owner: 77}
	}
}

// TestAppendsMemory: what is handed in stays, and is not kept: neither in what is late, nor in what a later Append brings to the nodes.
func TestAppendsMemory(t *testing.T) {
	c := newCast(t, 3)
	room := append([]byte("value"), "spare room"...)
	c.n.Weather(0, 6, 4)
	at, e := c.logs[0].Append(room[:5])
	mustTell(t, toldOf(at, e, 0), "error 40", "12.2: Append")
	if string(room) != "valuespare room" {
		t.Fatalf("rule 2: Append changes what is handed in: %s", room)
	}
	spoil(room)
	deliverAll(c.n)
	mustShow(t, c.n, 0, "value|value|", "rule 2: a value that was turned behind its Append")
	mustTell(t, c.do(t, "a append x"), "1", "12.2: Append")
	mustShow(t, c.n, 0, "valuex|valuex|valuex", "rule 2: a value that was turned behind its Append")
	for i, v := range [][]byte{nil, {}, make([]byte, 0, 9)} {
		if at, e := c.logs[0].Append(v); at != 2+i || e != api.OK {
			t.Errorf("rule 2: Append of nothing: %d, %d", at, e)
		}
	}
	mustTell(t, c.do(t, "b tail"), "5", "rule 2: nil and empty mean the same")
	mustTell(t, c.do(t, "b read 3"), "", "rule 2: nil and empty mean the same")
}

// TestReadsMemory: what is told is new memory.
func TestReadsMemory(t *testing.T) {
	c := newCast(t, 3)
	c.play(t, "12", []line{{"", "a append value", "0", ""}, {"", "b change", "ok", ""}, {"004", "b append other", "1", ""}})
	for range 2 {
		for pos, want := range []string{"value", "other"} {
			first, e := c.logs[1].Read(pos)
			mustBe(t, e, api.OK, "12.4: Read")
			second, e := c.logs[1].Read(pos)
			mustBe(t, e, api.OK, "12.4: Read")
			spoil(first)
			if string(second) != want {
				t.Errorf("rule 2: two answers share memory: %s", second)
			}
			spoil(second)
			mustTell(t, c.do(t, fmt.Sprint("b read ", pos)), want, "rule 2: what was told is not kept")
		}
	}
	mustTell(t, c.do(t, "b append last"), "2", "12.2: Append")
	mustShow(t, c.n, 1, "otherlast|otherlast|otherlast", "rule 2: the row is not what Read told")
}

// TestChainsMemory: segments that are turned in what Chain told turn nothing that a Log tells or does.
func TestChainsMemory(t *testing.T) {
	c := newCast(t, 3)
	for i, l := range []line{
		{"", "a append x", "0", "0: @0 +"},
		{"", "b tail", "1", "0: @0"},
		{"", "b change", "ok", "1: 1@0 @1 +"},
		{"", "b append y", "1", "1: 1@0 @1 +"},
		{"", "c refresh", "ok", "1: 1@0 @1"}, // what Learn told
		{"", "c tail", "2", "1: 1@0 @1"},
		{"", "c read 0", "x", "1: 1@0 @1"},
		{"", "c read 1", "y", "1: 1@0 @1"},
		{"", "b change", "ok", "2: 1@0 1@1 @1 +"},
		{"", "b append z", "2", "2: 1@0 1@1 @1 +"},
		{"", "a tail", "3", "2: 1@0 1@1 @1"},
		{"", "a trim 2", "ok", "2: 1@0 1@1 @1"},
		{"", "c change", "ok", "3: 1@0 1@1 1@1 @2 +"},
		{"", "a read 2", "z", "2: 1@0 1@1 @1"},
		{"", "a read 1", "error 31", "2: 1@0 1@1 @1"},
	} {
		for _, v := range c.logs {
			one, other := v.Chain(), v.Chain()
			was := spelledChain(other)
			spoilChain(one)
			if got := spelledChain(other); got != was {
				t.Fatalf("rule 2: two answers of Chain share memory: %s; not %s", got, was)
			}
		}
		c.play(t, fmt.Sprint("rule 2: segments that were turned, ", i), []line{l})
	}
}

// TestLogsApart: Logs over one net share nothing but the net.
func TestLogsApart(t *testing.T) {
	c := newCast(t, 3)
	c.play(t, "12.1", []line{{"", "b change", "ok", "1: 0@0 @1 +"}, {"", "b append x", "0", ""}})
	for who, want := range []string{"0: @0 +", "1: 0@0 @1 +", "0: @0", "0: @0"} {
		mustKnow(t, c.logs[who], want, "12.1: a Log is what one server knows")
	}
	mustKnow(t, newLog(t, c.n, 1, false), "0: @0", "12.1: in memory alone")
	other := newCast(t, 3)
	mustTell(t, other.do(t, "b tail"), "0", "12.1: another net")
	mustTell(t, other.do(t, "a append y"), "0", "12.1: another net")
	mustTell(t, c.do(t, "c tail"), "1", "12.1: another net")
}
