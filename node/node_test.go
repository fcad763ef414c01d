package node

import (
	"bytes"
	"fmt"
	"math"
	"slices"
	"strings"
	"testing"

	"headland/api"
	"headland/disk"
)

var longest = strings.Repeat("v", 1799) + "w"

func TestOpen(t *testing.T) {
	mustNotOpen(t, nil, api.ErrArg, "no disk")
	for blocks := 1; blocks <= 2; blocks++ {
		mustNotOpen(t, newDisk(t, blocks), api.ErrArg, "a small disk")
	}
	n, d := newNode(t, 80)
	if n.store.Number() != 0 || d.Open() != 0 || n.Dead() {
		t.Error("8.1: Open changes the disk")
	}
	mustKnow(t, n, plain{}, "8.1: of a new disk")
	all := append(writes(1, "a", "", longest), seal(1), fix(1, 3, "d"), trim(1, 2), seal(0), write(16, 0, "z"), prepare(1, 9), accept(2, 5, "v"))
	mustDo(t, n, all...)
	want := plain{}.behind(all...)
	mustKnow(t, n, want, "8.1")
	number := n.store.Number()
	anew := mustFind(t, d, want, "8.1: what an earlier node left")
	if anew.store.Number() != number || d.Open() != 0 {
		t.Error("8.1: Open changes the disk")
	}
	d.Cut(disk.Loss{Torn: -1})
	mustNotOpen(t, d, api.ErrDown, "a disk without power")
	d.Restart()
	mustFind(t, d, want, "8.2: opened anew")
	d.Flip(0, 3)
	d.Flip(1, 3)
	mustNotOpen(t, d, api.ErrCorrupt, "a disk without a head")
}

// step is a request and its answer, told whole.
type step struct {
	ask  api.Request
	want api.Answer
}

// mustGo asks one request behind the other. Each is one Apply, if it changes something, else none.
func mustGo(t *testing.T, blocks int, all []step) {
	t.Helper()
	n, d := newNode(t, blocks)
	var p plain
	for i, s := range all {
		number := n.store.Number()
		mustAnswer(t, n.Do(s.ask), s.want, fmt.Sprintf("8.1: request %d, %s", i, spelled(s.ask)))
		_, next := p.answer(s.ask)
		applies := 0
		if next.String() != p.String() {
			applies = 1
		}
		if made := n.store.Number() - number; made != applies {
			t.Fatalf("8.1: request %d, %s, is %d Applies; not %d", i, spelled(s.ask), made, applies)
		}
		p = next
		mustKnow(t, n, p, "8.1: behind "+spelled(s.ask))
		mustFind(t, d, p, "8.2: opened anew behind "+spelled(s.ask))
		if i%2 == 1 {
			n = mustOpen(t, d)
		}
	}
}

func TestExample(t *testing.T) {
	mustGo(t, 60, []step{
		{write(0, 0, "a"), api.Answer{Tail: 1}}, {write(0, 2, "c"), api.Answer{Tail: 1}}, {write(0, 0, "b"), api.Answer{Tail: 1}},
		{readAt(0, 0), api.Answer{Tail: 1, Value: []byte("a")}}, {seal(0), api.Answer{Tail: 1, Sealed: true}},
		{write(0, 1, "b"), api.Answer{Err: api.ErrSealed, Tail: 1, Sealed: true}}, {fix(0, 1, "b"), api.Answer{Tail: 2, Sealed: true}},
		{trim(0, 1), api.Answer{Tail: 2, Sealed: true, Trimmed: 1}}, {readAt(0, 0), api.Answer{Err: api.ErrTrimmed, Tail: 2, Sealed: true, Trimmed: 1}},
	})
}

// open and shut are answers of loglets that are not sealed, and of such that are.
func open(e api.Errno, tail, trimmed int, value string) api.Answer {
	return api.Answer{Err: e, Tail: tail, Trimmed: trimmed, Value: []byte(value)}
}

func shut(e api.Errno, tail, trimmed int, value string) api.Answer {
	return api.Answer{Err: e, Tail: tail, Trimmed: trimmed, Sealed: true, Value: []byte(value)}
}

const ok, none, many = api.OK, api.ErrNone, api.ErrMany

func TestAnEmptyLoglet(t *testing.T) {
	for _, log := range []int{0, 1, 15, 16} {
		mustGo(t, 60, []step{
			{state(log), open(ok, 0, 0, "")}, {readAt(log, 0), open(none, 0, 0, "")}, {readAt(log, 1), open(none, 0, 0, "")}, {readAt(log, 256), open(none, 0, 0, "")},
			{trim(log, 0), open(ok, 0, 0, "")}, {trim(log, 1), open(none, 0, 0, "")}, {trim(log, 256), open(none, 0, 0, "")}, {fix(log, 0, "a"), open(none, 0, 0, "")},
			{fix(log, 256, "a"), open(none, 0, 0, "")}, {write(log, 1, "a"), open(ok, 0, 0, "")}, {write(log, 255, "a"), open(ok, 0, 0, "")}, {write(log, 256, "a"), open(many, 0, 0, "")},
			{write(log, math.MaxInt, "a"), open(many, 0, 0, "")}, {readAt(log, math.MaxInt), open(none, 0, 0, "")}, {trim(log, math.MaxInt), open(none, 0, 0, "")},
			{ask(api.RState, log, 999, "v"), open(ok, 0, 0, "")}, {write(log, 0, ""), open(ok, 1, 0, "")}, {readAt(log, 0), open(ok, 1, 0, "")},
		})
		mustGo(t, 60, []step{
			{seal(log), shut(ok, 0, 0, "")}, {state(log), shut(ok, 0, 0, "")}, {ask(api.RSeal, log, 999, "v"), shut(ok, 0, 0, "")},
			{write(log, 0, "a"), shut(api.ErrSealed, 0, 0, "")}, {write(log, 1, "a"), shut(api.ErrSealed, 0, 0, "")}, {write(log, 256, "a"), shut(api.ErrSealed, 0, 0, "")},
			{fix(log, 1, "a"), shut(ok, 0, 0, "")}, {fix(log, 256, "a"), shut(many, 0, 0, "")}, {trim(log, 0), shut(ok, 0, 0, "")}, {trim(log, 1), shut(none, 0, 0, "")},
			{readAt(log, 0), shut(none, 0, 0, "")}, {fix(log, 0, "a"), shut(ok, 1, 0, "")}, {fix(log, 0, "b"), shut(ok, 1, 0, "")}, {readAt(log, 0), shut(ok, 1, 0, "a")},
		})
	}
}

func TestWriteAndTrim(t *testing.T) {
	mustGo(t, 80, []step{
		{write(2, 0, "a"), open(ok, 1, 0, "")}, {write(2, 1, longest), open(ok, 2, 0, "")}, {write(2, 2, ""), open(ok, 3, 0, "")},
		{write(2, 4, "e"), open(ok, 3, 0, "")}, {write(2, 2, "c"), open(ok, 3, 0, "")}, {write(2, 0, ""), open(ok, 3, 0, "")}, {write(2, 255, "z"), open(ok, 3, 0, "")},
		{readAt(2, 0), open(ok, 3, 0, "a")}, {readAt(2, 1), open(ok, 3, 0, longest)}, {readAt(2, 2), open(ok, 3, 0, "")}, {readAt(2, 3), open(none, 3, 0, "")}, {readAt(2, 4), open(none, 3, 0, "")},
		{trim(2, 0), open(ok, 3, 0, "")}, {trim(2, 4), open(none, 3, 0, "")}, {trim(2, 2), open(ok, 3, 2, "")}, {trim(2, 1), open(ok, 3, 2, "")}, {trim(2, 2), open(ok, 3, 2, "")}, {trim(2, 0), open(ok, 3, 2, "")},
		{readAt(2, 0), open(api.ErrTrimmed, 3, 2, "")}, {readAt(2, 1), open(api.ErrTrimmed, 3, 2, "")}, {readAt(2, 2), open(ok, 3, 2, "")}, {readAt(2, 3), open(none, 3, 2, "")},
		{write(2, 0, "x"), open(ok, 3, 2, "")}, {write(2, 1, "x"), open(ok, 3, 2, "")}, {fix(2, 3, "x"), open(none, 3, 2, "")}, {state(2), open(ok, 3, 2, "")},
		{trim(2, 3), open(ok, 3, 3, "")}, {readAt(2, 2), open(api.ErrTrimmed, 3, 3, "")}, {readAt(2, 3), open(none, 3, 3, "")}, {trim(2, 4), open(none, 3, 3, "")}, {write(2, 2, "x"), open(ok, 3, 3, "")},
		{write(2, 3, "d"), open(ok, 4, 3, "")}, {readAt(2, 3), open(ok, 4, 3, "d")}, {trim(2, 3), open(ok, 4, 3, "")}, {trim(2, 4), open(ok, 4, 4, "")},
		{seal(2), shut(ok, 4, 4, "")}, {write(2, 4, "e"), shut(api.ErrSealed, 4, 4, "")}, {write(2, 0, "e"), shut(api.ErrSealed, 4, 4, "")}, {readAt(2, 3), shut(api.ErrTrimmed, 4, 4, "")},
		{fix(2, 5, "f"), shut(ok, 4, 4, "")}, {fix(2, 0, "f"), shut(ok, 4, 4, "")}, {fix(2, 4, "e"), shut(ok, 5, 4, "")}, {fix(2, 4, "f"), shut(ok, 5, 4, "")}, {readAt(2, 4), shut(ok, 5, 4, "e")},
		{seal(2), shut(ok, 5, 4, "")}, {trim(2, 6), shut(none, 5, 4, "")}, {trim(2, 5), shut(ok, 5, 5, "")}, {fix(2, 5, longest), shut(ok, 6, 5, "")}, {readAt(2, 5), shut(ok, 6, 5, longest)}, {state(2), shut(ok, 6, 5, "")},
	})
}

// TestRegister: what chapter 7's register answers is the answer, and nothing else, whatever the loglet is.
func TestRegister(t *testing.T) {
	for _, ahead := range [][]api.Request{nil, {write(1, 0, "a"), write(1, 1, "b")}, {write(1, 0, "a"), seal(1), trim(1, 1)}} {
		var all []step
		p := plain{}
		for _, r := range ahead {
			var a api.Answer
			a, p = p.answer(r)
			all = append(all, step{r, a})
		}
		mustGo(t, 80, append(all, []step{
			{prepare(1, 0), api.Answer{Err: api.ErrArg}}, {accept(1, 0, "v"), api.Answer{Err: api.ErrArg}}, {ask(api.RPrepare, 1, 9, "x"), api.Answer{Tail: 9}}, {prepare(1, 9), api.Answer{Err: api.ErrOwner, Tail: 9}},
			{accept(1, 8, "v"), api.Answer{Err: api.ErrOwner, Tail: 9}}, {accept(1, 9, "v"), api.Answer{Tail: 9}}, {prepare(1, 5), api.Answer{Err: api.ErrOwner, Tail: 9, Ballot: 9, Value: []byte("v")}},
			{prepare(1, 300), api.Answer{Tail: 300, Ballot: 9, Value: []byte("v")}}, {accept(1, 999, longest), api.Answer{Tail: 999}}, {prepare(1, math.MaxInt), api.Answer{Tail: math.MaxInt, Ballot: 999, Value: []byte(longest)}},
			{prepare(0, 1), api.Answer{Tail: 1}}, {accept(16, 1, ""), api.Answer{Tail: 1}}, {prepare(16, 2), api.Answer{Tail: 2, Ballot: 1}},
		}...))
	}
}

// wrong is requests that may not be asked, whatever is kept, and by what they are refused.
func wrong() map[api.Errno][]api.Request {
	l := map[api.Errno][]api.Request{}
	long, longer := strings.Repeat("v", 1801), strings.Repeat("v", 9000)
	for _, value := range []string{"", "a", long, longer} {
		for _, kind := range []int{0, -1, 9, 10, 255, 257, 264, math.MinInt, math.MaxInt} {
			l[api.ErrArg] = append(l[api.ErrArg], ask(kind, 1, 0, value), ask(kind, 1, 1, value), ask(kind, 17, -1, value))
		}
		for kind := 1; kind <= 8; kind++ {
			for _, log := range []int{-1, 17, 18, 255, 256, 257, -256, math.MinInt, math.MaxInt} {
				l[api.ErrArg] = append(l[api.ErrArg], ask(kind, log, 0, value), ask(kind, log, 1, value), ask(kind, log, 256, value), ask(kind, log, -1, value))
			}
			for _, at := range []int{-1, -2, -256, math.MinInt} {
				l[api.ErrArg] = append(l[api.ErrArg], ask(kind, 0, at, value), ask(kind, 1, at, value), ask(kind, 2, at, value), ask(kind, 16, at, value))
			}
		}
	}
	for _, value := range []string{long, longer} {
		for kind := 1; kind <= 8; kind++ {
			for _, log := range []int{0, 1, 2, 16} {
				for _, at := range []int{0, 1, 2, 3, 5, 256, math.MaxInt} {
					l[api.ErrLong] = append(l[api.ErrLong], ask(kind, log, at, value))
				}
			}
		}
	}
	return l
}

// TestWrongOnes: what may not be asked, and which error is told where two would do.
func TestWrongOnes(t *testing.T) {
	n, d := newNode(t, 80)
	all := slices.Concat(writes(1, "a", "b", "c"), []api.Request{trim(1, 1)}, writes(2, "d"), []api.Request{seal(2), prepare(1, 5), accept(2, 5, "v")})
	mustDo(t, n, all...)
	want, number := plain{}.behind(all...), n.store.Number()
	for e, l := range wrong() {
		for _, r := range l {
			mustAnswer(t, n.Do(r), api.Answer{Err: e}, "8.1: "+spelled(r))
		}
	}
	if n.store.Number() != number || d.Open() != 0 {
		t.Error("rule 4: a refused call writes")
	}
	mustKnow(t, n, want, "rule 4: behind refusals")
	mustFind(t, d, want, "rule 4: behind refusals, opened anew")
}

// TestAsManySlotsAsMayBe: slot 255 is the last one.
func TestAsManySlotsAsMayBe(t *testing.T) {
	for _, sealed := range []bool{false, true} {
		n, d := newNode(t, 400)
		var p plain
		kind, answer := api.RWrite, open
		if sealed {
			kind, answer = api.RFix, shut
			mustDo(t, n, seal(3))
			p = p.behind(seal(3))
		}
		for at := range 256 {
			r := ask(kind, 3, at, fmt.Sprint("slot ", at))
			for _, past := range []int{256, 257, math.MaxInt} {
				mustAnswer(t, n.Do(ask(kind, 3, past, "x")), answer(many, at, 0, ""), "8.1: a slot that there is not")
			}
			mustAnswer(t, n.Do(r), answer(ok, at+1, 0, ""), "8.1: "+spelled(r))
			p = p.behind(r)
		}
		mustKnow(t, n, p, "8.1: all slots")
		n = mustFind(t, d, p, "8.2: all slots")
		for _, past := range []int{256, 257, 511, 512, math.MaxInt} {
			mustAnswer(t, n.Do(ask(kind, 3, past, "x")), answer(many, 256, 0, ""), "8.1: one slot more")
			mustAnswer(t, n.Do(readAt(3, past)), answer(none, 256, 0, ""), "8.1: one slot more")
		}
		for _, at := range []int{0, 1, 254, 255} {
			mustAnswer(t, n.Do(ask(kind, 3, at, "x")), answer(ok, 256, 0, ""), "8.1: a slot that has a value")
			mustAnswer(t, n.Do(readAt(3, at)), answer(ok, 256, 0, fmt.Sprint("slot ", at)), "8.2: a slot keeps its first value")
		}
		mustAnswer(t, n.Do(trim(3, 257)), answer(none, 256, 0, ""), "8.1: RTrim above all")
		for _, at := range []int{127, 128, 255, 256} {
			r := trim(3, at)
			mustAnswer(t, n.Do(r), answer(ok, 256, at, ""), "8.1: "+spelled(r))
			p = p.behind(r)
			mustKnow(t, n, p, "8.1: "+spelled(r))
			n = mustFind(t, d, p, "8.2: opened anew behind "+spelled(r))
		}
		mustAnswer(t, n.Do(ask(kind, 3, 256, "x")), answer(many, 256, 256, ""), "8.1: one slot more, all trimmed")
		mustAnswer(t, n.Do(readAt(3, 255)), answer(api.ErrTrimmed, 256, 256, ""), "8.1: all trimmed")
		mustAnswer(t, n.Do(readAt(3, 256)), answer(none, 256, 256, ""), "8.1: all trimmed")
		mustAnswer(t, n.Do(trim(3, 257)), answer(none, 256, 256, ""), "8.1: all trimmed")
	}
}

// TestEachRequestOfEachLoglet holds loglets of all sorts against the chapter's words.
func TestEachRequestOfEachLoglet(t *testing.T) {
	three := writes(1, "a", "bb", "")
	for i, ahead := range [][]api.Request{
		nil, {write(1, 0, "a")}, three, {seal(1)}, append(slices.Clip(three), trim(1, 2)), append(slices.Clip(three), trim(1, 3)),
		append(slices.Clip(three), seal(1)), append(slices.Clip(three), seal(1), trim(1, 1)), append(slices.Clip(three), trim(1, 3), seal(1)),
		append(slices.Clip(three), trim(1, 3), write(1, 3, "d")), append(slices.Clip(three), prepare(1, 2), accept(1, 2, "v"), prepare(1, 3)),
	} {
		p := plain{}.behind(ahead...)
		for kind := 1; kind <= 8; kind++ {
			for _, at := range []int{0, 1, 2, 3, 4, 5, 255, 256, 257, math.MaxInt} {
				for _, value := range []string{"", "v", longest} {
					n, d := newNode(t, 60)
					mustDo(t, n, ahead...)
					r := ask(kind, 1, at, value)
					want, next := p.answer(r)
					why := fmt.Sprintf("8.1: list %d, %s", i, spelled(r))
					mustAnswer(t, n.Do(r), want, why)
					mustList(t, n, next, why)
					n = mustOpen(t, d)
					mustList(t, n, next, why+", opened anew")
					again, _ := next.answer(r)
					mustAnswer(t, n.Do(r), again, why+", once more")
					if value == "v" {
						mustKnow(t, n, next.behind(r), why)
					}
				}
			}
		}
	}
}

func TestLogs(t *testing.T) {
	n, d := newNode(t, 200)
	for log := range 17 { // what leaves a loglet empty
		for _, r := range []api.Request{trim(log, 0), trim(log, 1), state(log), readAt(log, 0), write(log, 1, "a"), write(log, 256, "a"), fix(log, 0, "a")} {
			n.Do(r)
		}
		mustDo(t, n, prepare(log, 3), accept(log, 3, "v"))
	}
	mustList(t, n, plain{}, "8.1: nothing but empty ones")
	mustList(t, mustOpen(t, d), plain{}, "8.1: nothing but empty ones")
	want := []int{}
	for _, log := range []int{9, 0, 16, 3, 12, 1, 15, 2, 8} {
		switch log % 3 {
		case 0:
			mustDo(t, n, write(log, 0, ""))
		case 1:
			mustDo(t, n, seal(log))
		case 2:
			mustDo(t, n, write(log, 0, "a"), trim(log, 1))
		}
		want = append(want, log)
		slices.Sort(want)
		for _, other := range []*Node{n, mustOpen(t, d)} {
			if l := other.Logs(); !slices.Equal(l, want) {
				t.Fatalf("8.1: Logs: %v; not %v", l, want)
			}
		}
	}
}

// TestOthers: a request leaves the other loglets, and the register, as they are.
func TestOthers(t *testing.T) {
	n, d := newNode(t, 900)
	var p plain
	for round := range 4 {
		for log := range 17 {
			value := strings.Repeat(string(rune('a'+log)), 100*log)
			l := []api.Request{write(log, round, value), prepare(log, 10*round+log+1), trim(log, round/2)}
			if (log+round)%4 == 0 {
				l = append(l, seal(log), fix(log, round, value), accept(log, 10*round+log+2, value))
			}
			for _, r := range l {
				want, next := p.answer(r)
				mustAnswer(t, n.Do(r), want, "8.1: "+spelled(r))
				p = next
			}
			mustKnow(t, n, p, fmt.Sprint("8.1: round ", round, ", loglet ", log))
		}
		n = mustFind(t, d, p, "8.2: opened anew")
	}
}

func TestMemory(t *testing.T) {
	n, d := newNode(t, 80)
	mustDo(t, n, seal(2))
	p := plain{}.behind(seal(2))
	for i, length := range []int{0, 1, 9, 1800} {
		room := append(bytes.Repeat([]byte{'v'}, length), bytes.Repeat([]byte{0xee}, 40)...)
		handed := bytes.Clone(room)
		for kind := 1; kind <= 8; kind++ {
			r := api.Request{Kind: kind, Log: 1, At: i, Value: room[:length]}
			if kind == api.RSeal || kind == api.RFix {
				r.Log = 2
			}
			if kind >= api.RPrepare {
				r.At = 5 + i
			}
			n.Do(r)
			r.Value = handed[:length]
			p = p.behind(r)
		}
		if !bytes.Equal(room, handed) {
			t.Error("rule 2: Do changes what is handed in")
		}
		spoil(room)
	}
	mustKnow(t, n, p, "rule 2: what was handed in is not kept")
	for range 2 {
		for _, r := range []api.Request{readAt(1, 3), readAt(2, 2), prepare(1, 1)} {
			first, second := n.Do(r), n.Do(r)
			if len(first.Value) == 0 {
				t.Fatalf("8.1: %s: %s", spelled(r), told(first))
			}
			spoil(first.Value[:cap(first.Value)])
			want, _ := p.answer(r)
			mustAnswer(t, second, want, "rule 2: an answer beside one that was overwritten")
			mustAnswer(t, n.Do(r), want, "rule 2: an answer behind one that was overwritten")
		}
		logs, others := n.Logs(), n.Logs()
		for i := range logs[:cap(logs)] {
			logs[:cap(logs)][i] = 99
		}
		if !slices.Equal(others, []int{1, 2}) || !slices.Equal(n.Logs(), others) {
			t.Fatalf("rule 2: Logs: %v", others)
		}
		n = mustFind(t, d, p, "rule 2: opened anew")
	}
}

func spoil(b []byte) {
	for i := range b {
		b[i] = '#'
	}
}

// TestNothingIsKeptOfWhatIsTrimmed: a slot that nobody may read any more needs no room.
func TestNothingIsKeptOfWhatIsTrimmed(t *testing.T) {
	n, d := newNode(t, 60)
	for at := range 256 {
		mustDo(t, n, write(5, at, longest))
		if at >= 20 {
			mustDo(t, n, trim(5, at-19))
		}
	}
	if l := n.store.Len(space); l != 20+1 {
		t.Errorf("8.1: %d pairs of 20 slots", l)
	}
	mustDo(t, n, trim(5, 256))
	if l := n.store.Len(space); l != 1 {
		t.Errorf("8.1: %d pairs of no slot", l)
	}
	mustAnswer(t, mustOpen(t, d).Do(state(5)), open(ok, 256, 256, ""), "8.2: all trimmed")
}

// TestOneForm: a node's pairs have one form, however it came to know what it knows.
func TestOneForm(t *testing.T) {
	var forms []string
	for _, all := range [][]api.Request{
		{write(1, 0, "a"), write(1, 1, "b"), write(1, 2, "c"), seal(1), trim(1, 2), write(0, 0, "z"), prepare(3, 9)},
		{prepare(3, 9), write(1, 0, "other"), write(1, 1, ""), trim(1, 1), seal(1), fix(1, 2, "c"), trim(1, 2), write(0, 0, "z"), write(0, 0, "y"), seal(1), trim(1, 0)},
		{write(0, 0, "z"), seal(1), fix(1, 0, "a"), trim(1, 1), trim(2, 0), fix(1, 1, "x"), trim(1, 2), prepare(3, 8), fix(1, 2, "c"), prepare(3, 9)},
	} {
		n, _ := newNode(t, 60)
		mustDo(t, n, all...)
		l, pos, e := n.store.Export()
		forms = append(forms, fmt.Sprint(l, pos, e))
	}
	if len(slices.Compact(forms)) != 1 {
		t.Errorf("rule 7: %d forms", len(slices.Compact(forms)))
	}
}
