package vlog

import (
	"fmt"
	"strings"
	"testing"
)

func TestChange(t *testing.T) {
	for nodes := 1; nodes <= 5; nodes++ {
		c := newCast(t, nodes)
		c.play(t, fmt.Sprint("12.5: ", nodes, " nodes"), []line{
			{"", "a change", "ok", "1: 0@0 @0 +"}, // nothing is written so far
			{"", "a append x", "0", ""},
			{"", "a append y", "1", ""},
			{"", "d change", "ok", "2: 0@0 2@0 @3 +"},
			{"", "d change", "ok", "3: 0@0 2@0 0@3 @3 +"}, // twice in a row
			{"", "d append z", "2", ""},
			{"", "d change", "ok", "4: 0@0 2@0 0@3 1@3 @3 +"},
			{"", "a append -", "error 30", "1: 0@0 @0 +"},
			{"", "b change", "ok", "5: 0@0 2@0 0@3 1@3 0@3 @1 +"}, // of one that knew nothing
			{"", "b append w", "3", ""},
			{"", "a change", "ok", "6: 0@0 2@0 0@3 1@3 0@3 1@1 @0 +"},
			{"", "a append v", "4", ""},
			{"", "c tail", "5", "6: 0@0 2@0 0@3 1@3 0@3 1@1 @0"},
			{"", "c read 0", "x", ""},
			{"", "c read 1", "y", ""},
			{"", "c read 2", "z", ""},
			{"", "c read 3", "w", ""},
			{"", "c read 4", "v", ""},
		})
	}
}

// behind is a net of three nodes, of which not all have what a wrote last.
func behind(t *testing.T) *cast {
	t.Helper()
	c := newCast(t, 3)
	c.play(t, "12.2: Append", []line{{"", "a append x", "0", ""}, {"004", "a append y", "1", ""}})
	mustShow(t, c.n, 0, "xy|xy|x", "12.2: Append")
	return c
}

// TestChangeCalls: its steps, in their order.
func TestChangeCalls(t *testing.T) {
	want := "0 prepare 1 6, 1 prepare 1 6, 2 prepare 1 6, 0 seal 0, 1 seal 0, 2 seal 0, 0 read 0 1, 2 fix 0 1 y, " +
		"0 prepare 1 6, 1 prepare 1 6, 2 prepare 1 6, 0 prepare 1 10, 1 prepare 1 10, 2 prepare 1 10, 0 accept 1 10 2@0 @1, 1 accept 1 10 2@0 @1, 2 accept 1 10 2@0 @1"
	if got := asked(t, "", func() *cast { return behind(t) }, "b change"); got != want {
		t.Errorf("12.5: the calls of Change are\n%s; not\n%s", got, want)
	}
	later := func() *cast {
		c := newCast(t, 1)
		for v := 1; v <= 2; v++ {
			accept(t, c.n, v, long(v))
		}
		lay(t, c.n, 2, "uv")
		return c
	}
	want = "0 prepare 1 5, 0 accept 1 5 0@3 @0, 0 prepare 2 5, 0 accept 2 5 0@3 1@0 @1, 0 prepare 3 5, 0 seal 2, 0 prepare 3 5, 0 prepare 3 9, 0 accept 3 9 0@3 1@0 2@1 @0"
	if got := asked(t, "", later, "a change"); got != want {
		t.Errorf("12.5: the calls of Change behind later versions are\n%s; not\n%s", got, want)
	}
}

// TestChangeRefused at each of its steps, and then once more without weather.
func TestChangeRefused(t *testing.T) {
	for _, c := range []struct {
		weather string
		told    string
		shown   string // the loglet 0
		calls   int
		again   string // what is known behind a second Change, of b
	}{
		{"", "ok", "xy!|xy!|xy!", 17, "2: 2@0 0@1 @1 +"},
		// Refresh.
		{"444 444 444", "error 40", "xy|xy|x", 9, "1: 2@0 @1 +"},
		{"404 444 440", "error 40", "xy|xy|x", 9, "1: 2@0 @1 +"},
		{"555 555 555", "error 40", "xy|xy|x", 9, "1: 2@0 @1 +"},
		// Close: its seals, and its help.
		{"000 440", "error 40", "xy|xy|x!", 6, "1: 2@0 @1 +"},
		{"000 444", "error 40", "xy|xy|x", 6, "1: 2@0 @1 +"},
		{"000 545", "error 40", "xy!|xy|x!", 6, "1: 2@0 @1 +"},
		{"000 400 4", "error 40", "xy|xy!|x!", 7, "1: 2@0 @1 +"},
		{"000 040 05", "error 40", "xy!|xy|xy!", 8, "1: 2@0 @1 +"},
		{"000 000 4", "ok", "xy!|xy!|x!", 16, "2: 2@0 0@1 @1 +"}, // a majority has it without help
		{"000 004", "ok", "xy!|xy!|x", 15, "2: 2@0 0@1 @1 +"},
		// Propose: it was not decided, or by a majority whose answers were lost.
		{"000 000 00 444 444 444", "error 40", "xy!|xy!|xy!", 17, "1: 2@0 @1 +"},
		{"000 000 00 000 044 444", "error 40", "xy!|xy!|xy!", 17, "1: 2@0 @1 +"},
		{"000 000 00 000 000 444 444", "error 40", "xy!|xy!|xy!", 20, "1: 2@0 @1 +"},
		{"000 000 00 000 000 444 000 444", "error 40", "xy!|xy!|xy!", 23, "1: 2@0 @1 +"},
		{"000 000 00 000 000 444 000 000", "ok", "xy!|xy!|xy!", 23, "2: 2@0 0@1 @1 +"},
		{"000 000 00 000 000 440 444", "error 40", "xy!|xy!|xy!", 20, "2: 2@0 0@1 @1 +"},
		{"000 000 00 000 000 555 444", "error 40", "xy!|xy!|xy!", 20, "2: 2@0 0@1 @1 +"},
	} {
		for _, letter := range []string{"a", "b"} {
			now := behind(t)
			now.n.Weather(numbers(c.weather)...)
			why := fmt.Sprint("12.5: ", letter, " change in ", c.weather)
			known := map[string]string{"a error 40": "0: @0 +", "b error 40": "0: @0", "a ok": "1: 2@0 @0 +", "b ok": "1: 2@0 @1 +"}
			mustCall(t, now.n, c.calls, why, func() { mustTell(t, now.do(t, letter+" change"), c.told, why) })
			mustKnow(t, now.of(letter[0]), known[letter+" "+c.told], why)
			mustShow(t, now.n, 0, c.shown, why)
			if letter == "b" {
				now.play(t, why+", and again", []line{{"", "b change", "ok", c.again}, {"", "b append z", "2", c.again}, {"", "a tail", "3", c.again[:len(c.again)-2]}})
			}
		}
	}
}

// TestChangeOfOneThatOwns: who owns gets a new Writer, and a refusal takes none.
func TestChangeOfOneThatOwns(t *testing.T) {
	c := behind(t)
	c.play(t, "12.5", []line{
		{"444 444 444", "a change", "error 40", "0: @0 +"},
		{"", "a append z", "2", "0: @0 +"}, // it is not sealed
		{"000 044", "a change", "error 40", "0: @0 +"},
		{"", "a append u", "3", "0: @0 +"},        // at the others
		{"", "a append v", "error 30", "0: @0 +"}, // one node is sealed
		{"000 000 000 00 000 444 444", "a change", "error 40", "0: @0 +"},
		{"", "a append v", "error 30", "0: @0 +"},
		{"", "a change", "ok", "1: 4@0 @0 +"},
		{"", "a append v", "4", "1: 4@0 @0 +"},
		{"", "a append w", "5", "1: 4@0 @0 +"},
	})
	mustShow(t, c.n, 1, "vw|vw|vw", "12.5: the new loglet")
	// A later chain is learnt, whatever comes behind it.
	c.play(t, "12.5", []line{
		{"", "b change", "ok", "2: 4@0 2@0 @1 +"},
		{"000 000 000 000 444", "a change", "error 40", "2: 4@0 2@0 @1"},
		{"", "b append x", "6", "2: 4@0 2@0 @1 +"},
	})
	// A value that was not told is in the segment, if it was heard of.
	c.play(t, "12.5", []line{
		{"044", "b append y", "error 40", "2: 4@0 2@0 @1 +"},
		{"", "c change", "ok", "3: 4@0 2@0 2@1 @2 +"},
		{"", "c append z", "8", ""},
		{"", "c read 7", "y", ""},
		{"044", "c append u", "error 40", "3: 4@0 2@0 2@1 @2 +"},
		{"000 000 000 000 400", "b change", "ok", "4: 4@0 2@0 2@1 1@2 @1 +"}, // nobody heard of it
		{"", "b append v", "9", ""},
		{"", "b read 9", "v", ""},
		{"", "c append w", "error 30", "3: 4@0 2@0 2@1 @2 +"},
		{"", "c tail", "10", "4: 4@0 2@0 2@1 1@2 @1"},
		{"", "c read 9", "v", ""},
	})
	mustShow(t, c.n, 3, "zu|z!|z!", "12.5: what nobody heard of")
}

// TestTwoAtOnce: two servers' chains are under way, one is decided, and the other server is told ErrOwner. Node by node: that one alone has the first server's chain, and is not heard as the second one refreshes.
func TestTwoAtOnce(t *testing.T) {
	for _, one := range []struct{ letter, owned, then string }{{"a", " +", "2: 2@0 0@2 @0 +"}, {"b", "", "2: 2@0 0@2 @1 +"}, {"d", "", "2: 2@0 0@2 @3 +"}} {
		for _, node := range []struct{ has, unheard string }{{"044", "400"}, {"404", "040"}, {"440", "004"}} {
			c := behind(t)
			c.play(t, "12.5: two at once", []line{
				{"000 000 00 000 000" + node.has + "444", "c change", "error 40", "0: @0"},
				{"", one.letter + " read 0", "x", "0: @0" + one.owned},
				{"000" + node.unheard + "000 000 000 000", one.letter + " change", "error 41", "1: 2@0 @2"},
				{"", one.letter + " append z", "error 41", "1: 2@0 @2"},
				{"", "c append z", "error 41", "0: @0"},
				{"", "c refresh", "ok", "1: 2@0 @2"}, // it was told nothing, so it never had a Writer
				{"", "c append z", "error 41", "1: 2@0 @2"},
				{"", "b tail", "2", "1: 2@0 @2"},
				{"", one.letter + " change", "ok", one.then},
				{"", one.letter + " append z", "2", ""},
			})
			mustShow(t, c.n, 1, "!|!|!", "12.8: nobody wrote there")
		}
	}
}

// TestTwoAtOnceLate: the accepts of a chain come late, behind another one that was decided.
func TestTwoAtOnceLate(t *testing.T) {
	c := behind(t)
	c.play(t, "12.5: two at once", []line{
		{"000 000 00 000 000 666 444", "c change", "error 40", "0: @0"},
		{"", "b change", "ok", "1: 2@0 @1 +"},
	})
	deliverAll(c.n)
	c.play(t, "12.5: two at once", []line{
		{"", "c refresh", "ok", "1: 2@0 @1"},
		{"", "b append z", "2", "1: 2@0 @1 +"},
		{"", "c change", "ok", "2: 2@0 1@1 @2 +"},
	})
	c = behind(t)
	c.play(t, "12.5: two at once", []line{{"000 000 00 000 000 666 444", "c change", "error 40", "0: @0"}})
	deliverAll(c.n) // ahead of the other one: they are decided
	c.play(t, "12.5: two at once", []line{
		{"", "b change", "ok", "2: 2@0 0@2 @1 +"},
		{"", "c append z", "error 41", "0: @0"},
	})
}

// TestChangeOfAnElderLife: a chain of an elder life of the same server is decided.
func TestChangeOfAnElderLife(t *testing.T) {
	c := behind(t)
	c.play(t, "12.5: the same chain", []line{
		{"000 000 00 000 000 404 444", "b change", "error 40", "0: @0"},
		{"", "b new", "ok", "0: @0"},
		{"000 040 000 000 000 000", "b change", "ok", "1: 2@0 @1 +"}, // it is the one that it proposed
		{"", "b append z", "2", ""},
		{"", "b new", "ok", "0: @0"},
		{"", "b append -", "error 41", "0: @0"},
		{"", "b change", "ok", "2: 2@0 1@1 @1 +"},
		{"", "b append u", "3", ""},
	})
	c = behind(t)
	c.play(t, "12.5: another chain", []line{
		{"044", "a append z", "error 40", "0: @0 +"},
		{"000 400 00 000 000 404 444", "b change", "error 40", "0: @0"},
		{"", "b new", "ok", "0: @0"},
		{"000 040 000 0000 000 000", "b change", "error 41", "1: 2@0 @1"}, // it would have been 3@0 @1
		{"", "b append u", "error 41", "1: 2@0 @1"},
		{"", "b change", "ok", "2: 2@0 0@1 @1 +"},
		{"", "b append u", "2", ""},
		{"", "a tail", "3", "2: 2@0 0@1 @1"},
		{"", "a read 2", "u", ""},
	})
	mustShow(t, c.n, 0, "xyz!|xyz!|xyz!", "12.5: what lies behind the end")
}

// TestChangeAtTheLast: there are 16 versions behind the first.
func TestChangeAtTheLast(t *testing.T) {
	c := newCast(t, 1)
	spelled := "@0"
	for v := 1; v <= 16; v++ {
		letter := "abcd"[v%4 : v%4+1]
		mustTell(t, c.do(t, letter+" change"), "ok", fmt.Sprint("12.5: Change to ", v))
		spelled = fmt.Sprint(spelled[:len(spelled)-2], min(v-1, 1), spelled[len(spelled)-2:], " @", v%4)
		mustKnow(t, c.of(letter[0]), fmt.Sprint(v, ": ", spelled, " +"), fmt.Sprint("12.5: Change to ", v))
		mustTell(t, c.do(t, letter+" append x"), fmt.Sprint(v-1), "12.2: Append")
	}
	full := "16: " + spelled
	mustCall(t, c.n, 0, "12.5: Change at 16", func() { mustTell(t, c.do(t, "a change"), "error 2", "12.5: Change at 16") })
	c.play(t, "12.5: at 16", []line{
		{"", "a change", "error 2", full + " +"}, // the owner of the last one
		{"", "a append y", "16", full + " +"},
		{"", "d change", "error 2", full}, // from 15 on
		{"", "b new", "ok", "0: @0"},
		{"", "b change", "error 2", full}, // from 0 on
		{"", "b change", "error 2", full},
		{"", "a append z", "17", full + " +"},
		{"", "b tail", "18", full},
	})
	mustShow(t, c.n, 16, "xyz", "12.5: nothing is sealed")
	crashAll(c.n)
	c.play(t, "12.5: at 16, without nodes", []line{
		{"", "a change", "error 2", full + " +"},
		{"", "b change", "error 2", full},
		{"", "c change", "error 40", "14: " + spelled[:len("0@0 ")+13*len("1@1 ")] + "@2 +"},
	})
}

// TestTwoAtOnceAtTheLast: two servers' chains of the version 16 are under way. Whose is decided never hears of it in its Change, so nobody owns, and there is no later one.
func TestTwoAtOnceAtTheLast(t *testing.T) {
	c := newCast(t, 3)
	for v := 1; v <= 15; v++ {
		accept(t, c.n, v, long(v))
	}
	lay(t, c.n, 15, "xy|xy|xy")
	known := "15: " + long(15)
	decided := "16: " + strings.TrimSuffix(long(15), "@2") + "2@2 @2"
	c.play(t, "12.5: two at once, at 16", []line{
		{"", "b refresh", "ok", known},
		{"", "c refresh", "ok", known},
		{"000 000 000 000 000 404 444", "c change", "error 40", known},
		{"000 040 000 000 000 000", "b change", "error 41", decided},
		{"", "b change", "error 2", decided},
		{"", "c change", "error 2", decided},
		{"", "c append z", "error 41", decided},
		{"", "b tail", "107", decided},
		{"", "a read 106", "error 4", "0: @0 +"},
		{"", "b read 106", "y", decided},
	})
}

// TestChangeOfOddChains: what was decided by other means than a Change is gone on from as far as it goes.
func TestChangeOfOddChains(t *testing.T) {
	c := newCast(t, 3)
	accept(t, c.n, 1, "@2") // a segment too few
	lay(t, c.n, 0, "x|x|x")
	c.play(t, "12.5: a chain that is too short", []line{
		{"", "b tail", "1", "0: @0"},
		{"", "b refresh", "ok", "1: @2"},
		{"", "b tail", "1", "1: @2"},
		{"", "b change", "error 1", "1: @2"}, // the loglet 2 can't stand behind the loglet 0
		{"", "b change", "error 1", "1: @2"},
		{"", "b tail", "error 30", "1: @2"},
		{"", "b read 0", "x", "1: @2"},
	})
	mustShow(t, c.n, 0, "x!|x!|x!", "12.5: what is refused by Propose is closed")
	c = newCast(t, 3)
	const far = "4611686018427387904" // where a segment may end at most
	accept(t, c.n, 1, far+"@0 @3")
	c.play(t, "12.5: a chain that goes far", []line{
		{"", "b refresh", "ok", "1: " + far + "@0 @3"},
		{"", "b tail", far, ""},
		{"", "b change", "ok", "2: " + far + "@0 0@3 @1 +"},
		{"", "b append x", far, ""},
		{"", "b read " + far, "x", ""},
		{"", "b read 4611686018427387903", "error 4", ""},
		{"", "b tail", "4611686018427387905", ""},
		{"", "b change", "error 1", "2: " + far + "@0 0@3 @1 +"}, // it would end beyond
		{"", "b append y", "error 30", "2: " + far + "@0 0@3 @1 +"},
		{"", "b trim 1", "error 40", ""},
		{"", "b trim 257", "error 1", ""},
	})
}
