package meta

import (
	"bytes"
	"fmt"
	"math"
	"math/rand"
	"slices"
	"testing"

	"headland/api"
	"headland/wire"
)

const top = 1 << 62

// long is a chain of so many segments, of i + 1 positions each.
func long(count int) []api.Segment {
	l := make([]api.Segment, count)
	start := 0
	for i := range l {
		l[i] = api.Segment{Log: i, Start: start, End: start + i + 1, Owner: (i + 2) % 4}
		start = l[i].End
	}
	if count > 0 {
		l[count-1].End = -1
	}
	return l
}

func TestFirst(t *testing.T) {
	l := First()
	if !slices.Equal(l, []api.Segment{{Log: 0, Start: 0, End: -1, Owner: 0}}) || !Right(l) {
		t.Errorf("11.1: First: %v", l)
	}
	spoil(l)
	if l := First(); len(l) != 1 || l[0] != (api.Segment{End: -1}) {
		t.Errorf("rule 2: First, behind one that was turned: %v", l)
	}
}

// bytesOf are numbers, one behind the other, as wire has them.
func bytesOf(l ...int) []byte {
	var b []byte
	for _, n := range l {
		b = append(b, wire.Uint(n)...)
	}
	return b
}

func mustBeChain(t *testing.T, l []api.Segment, want []byte, why string) {
	t.Helper()
	was := slices.Clone(l)
	b, e := Encode(l)
	if !Right(l) || e != api.OK || !bytes.Equal(b, want) {
		t.Fatalf("11.1: %s: Right %v, Encode %v, error %d; not %v", why, Right(l), b, e, want)
	}
	again, e := Decode(b)
	if e != api.OK || !slices.Equal(again, l) {
		t.Fatalf("11.1: %s: Decode %v, error %d; not %v", why, again, e, l)
	}
	if !slices.Equal(l, was) {
		t.Fatalf("rule 2: %s: %v, and %v behind it", why, was, l)
	}
}

func TestChains(t *testing.T) {
	mustBeChain(t, First(), []byte{1, 0}, "First")
	for owner := range 4 {
		mustBeChain(t, []api.Segment{{End: -1, Owner: owner}}, []byte{1, byte(owner)}, "one segment")
		mustBeChain(t, []api.Segment{{End: 300, Owner: 3 - owner}, {Log: 1, Start: 300, End: -1, Owner: owner}}, []byte{2, byte(3 - owner), 130, 44, byte(owner)}, "two segments")
	}
	for count := 1; count <= 17; count++ {
		want := []byte{byte(count)}
		for i := range count {
			want = append(want, byte((i+2)%4))
			if i < count-1 {
				want = append(want, byte(i+1))
			}
		}
		mustBeChain(t, long(count), want, fmt.Sprint(count, " segments"))
	}
	mustBeChain(t, []api.Segment{{}, {Log: 1}, {Log: 2, End: -1}}, []byte{3, 0, 0, 0, 0, 0}, "segments without a position")
	for _, end := range []int{0, 1, 127, 128, 1<<62 - 1, top} {
		mustBeChain(t, []api.Segment{{End: end, Owner: 1}, {Log: 1, Start: end, End: -1, Owner: 2}}, bytesOf(2, 1, end, 2), fmt.Sprint("an End of ", end))
		l := []api.Segment{{End: end}, {Log: 1, Start: end, End: top, Owner: 3}, {Log: 2, Start: top, End: top}, {Log: 3, Start: top, End: -1}}
		mustBeChain(t, l, bytesOf(4, 0, end, 3, top-end, 0, 0, 0), fmt.Sprint("Ends of ", end, " and 2^62"))
	}
}

// noChains are segments that are no chain, by what is wrong.
func noChains() map[string][]api.Segment {
	turned := func(count int, turn func(l []api.Segment)) []api.Segment {
		l := long(count)
		turn(l)
		return l
	}
	// moved lets a segment end elsewhere, and the next one begin there.
	moved := func(count, i, end int) []api.Segment {
		return turned(count, func(l []api.Segment) { l[i].End, l[i+1].Start = end, end })
	}
	all := map[string][]api.Segment{
		"none": nil, "empty": {}, "18": long(18), "19": long(19), "1000": long(1000),
		"one that is closed":          {{End: 0}},
		"one that is closed behind":   {{End: 4}},
		"an End of -2":                {{End: -2}},
		"a zero one and a chain":      {{}, {End: -1}},
		"End below Start":             moved(3, 1, 0),
		"the first End below Start":   moved(3, 0, -1),
		"far below Start":             moved(3, 0, math.MinInt),
		"End above 2^62":              moved(3, 1, top+1),
		"first End above 2^62":        moved(2, 0, top+1),
		"End far above 2^62":          moved(2, 0, math.MaxInt),
		"End above 2^62, then below":  {{End: top + 1}, {Log: 1, Start: top + 1, End: top}, {Log: 2, Start: top, End: -1}},
		"a last Start below 0":        {{Start: -1, End: -1}},
		"all open":                    {{End: -1}, {Log: 1, Start: -1, End: -1}},
		"open ones one by one":        {{End: -1}, {Log: 1, Start: 0, End: -1}},
		"the same one twice":          {{End: 2}, {End: 2}, {Log: 1, Start: 2, End: -1}},
		"Logs from 1 on":              {{Log: 1, End: 2}, {Log: 2, Start: 2, End: -1}},
		"a single Log 1":              {{Log: 1, End: -1}},
		"Logs turned round":           turned(3, func(l []api.Segment) { l[1].Log, l[2].Log = 2, 1 }),
		"a Log below 0":               {{Log: -1, End: -1}},
		"no order":                    {{Log: 1, Start: 2, End: -1}, {End: 2}},
		"right up to 17, one too far": append(long(17), api.Segment{Log: 17, End: -1}),
	}
	for count := 1; count <= 17; count += 4 {
		for i := range count {
			name := fmt.Sprint(count, " segments, of which ", i, " has ")
			for _, by := range []int{-1, 1, 1 << 40, math.MinInt} {
				all[name+fmt.Sprint("a Start turned by ", by)] = turned(count, func(l []api.Segment) { l[i].Start += by })
				all[name+fmt.Sprint("an End turned by ", by)] = turned(count, func(l []api.Segment) { l[i].End += by })
				all[name+fmt.Sprint("a Log turned by ", by)] = turned(count, func(l []api.Segment) { l[i].Log += by })
			}
			for _, who := range noServers {
				all[name+fmt.Sprint("the Owner ", who)] = turned(count, func(l []api.Segment) { l[i].Owner = who })
			}
			if i < count-1 {
				all[name+"an End of -1"] = turned(count, func(l []api.Segment) { l[i].End = -1 })
				all[name+"an End of -1, the next one's Start"] = moved(count, i, -1)
			}
		}
		all[fmt.Sprint(count, " segments, the last one closed")] = turned(count, func(l []api.Segment) { l[count-1].End = l[count-1].Start })
	}
	return all
}

func TestNoChains(t *testing.T) {
	for name, l := range noChains() {
		was := slices.Clone(l)
		if b, e := Encode(l); Right(l) || len(b) > 0 || e != api.ErrArg {
			t.Errorf("11.1: %s: Right %v, Encode %v, error %d", name, Right(l), b, e)
		}
		if !slices.Equal(l, was) {
			t.Errorf("rule 2: %s: %v, and %v behind it", name, was, l)
		}
	}
}

func mustNotDecode(t *testing.T, b []byte, want api.Errno, why string) {
	t.Helper()
	was := slices.Clone(b)
	if l, e := Decode(b); len(l) > 0 || e != want {
		t.Errorf("11.1: Decode of %s, %v: %v, error %d; not error %d", why, b, l, e, want)
	}
	if !bytes.Equal(b, was) {
		t.Errorf("rule 2: Decode of %s turns what is handed in", why)
	}
}

func TestDecode(t *testing.T) {
	for _, c := range []struct {
		why  string
		b    []byte
		want api.Errno
	}{
		{"no bytes", nil, api.ErrShort},
		{"no bytes", []byte{}, api.ErrShort},
		{"a count that is cut", []byte{129}, api.ErrShort},
		{"a count of another form", []byte{128, 1, 0}, api.ErrForm},
		{"a count of ten bytes", bytes.Repeat([]byte{255}, 10), api.ErrForm},
		{"the count 0", []byte{0}, api.ErrForm},
		{"the count 0, and bytes", []byte{0, 0, 0}, api.ErrForm},
		{"the count 18, at once", []byte{18}, api.ErrForm},
		{"the count 18, whole", append([]byte{18}, make([]byte, 35)...), api.ErrForm},
		{"the count 18, and bytes of no form", []byte{18, 128}, api.ErrForm},
		{"the count 2^63 - 1", wire.Uint(math.MaxInt), api.ErrForm},
		{"the count 128", []byte{129, 0}, api.ErrForm},
		{"a count alone", []byte{1}, api.ErrShort},
		{"the count 17 alone", []byte{17}, api.ErrShort},
		{"an owner that is cut", []byte{1, 129}, api.ErrShort},
		{"an owner of another form", []byte{1, 128, 0}, api.ErrForm},
		{"positions of another form", []byte{2, 0, 128, 0, 0}, api.ErrForm},
		{"the owner 4", []byte{1, 4}, api.ErrForm},
		{"an owner far above", append([]byte{1}, wire.Uint(math.MaxInt)...), api.ErrForm},
		{"the owner 4 of the last one", []byte{2, 0, 3, 4}, api.ErrForm},
		{"the owner 4 of the first one", []byte{2, 4, 3, 0}, api.ErrForm},
		{"a byte left", []byte{1, 0, 0}, api.ErrForm},
		{"bytes left that are no number", []byte{1, 0, 128}, api.ErrForm},
		{"bytes left that are cut", []byte{1, 0, 129}, api.ErrForm},
		{"another chain behind it", []byte{1, 0, 1, 0}, api.ErrForm},
		{"positions of the last one", []byte{2, 0, 3, 1, 5}, api.ErrForm},
		{"an owner 4, cut behind it", []byte{2, 4}, api.ErrShort}, // what wire refuses comes first, wherever it stands
		{"an owner 4, cut later", []byte{2, 4, 3}, api.ErrShort},
		{"too many positions, cut behind them", bytesOf(3, 0, top+1, 0), api.ErrShort},
		{"an owner 4, another form later", []byte{2, 4, 3, 128}, api.ErrForm},
		{"a form that is wrong ahead of a cut", []byte{2, 128}, api.ErrForm},
		{"2^62 + 1 positions", bytesOf(2, 0, top+1, 0), api.ErrForm},
		{"2^63 - 1 positions", bytesOf(2, 0, math.MaxInt, 0), api.ErrForm},
		{"a sum of 2^62 + 1", bytesOf(3, 0, top, 0, 1, 0), api.ErrForm},
		{"a sum of 2^62 + 1, the other way", bytesOf(3, 0, 1, 0, top, 0), api.ErrForm},
		{"a sum of 2^63", bytesOf(3, 0, top, 0, top, 0), api.ErrForm},
		{"a sum of 2^64 - 2", bytesOf(3, 0, math.MaxInt, 0, math.MaxInt, 0), api.ErrForm},
		{"a sum of 2^64", bytesOf(4, 0, math.MaxInt, 0, math.MaxInt, 0, 2, 0), api.ErrForm},
		{"a sum of 2^64 in fours", bytesOf(5, 0, top, 0, top, 0, top, 0, top, 0), api.ErrForm},
		{"a sum of 2^64 + 5", bytesOf(4, 0, math.MaxInt, 0, math.MaxInt, 0, 7, 0), api.ErrForm},
		{"a sum of 2^64 - 1", bytesOf(4, 0, math.MaxInt, 0, math.MaxInt, 0, 1, 0), api.ErrForm},
	} {
		mustNotDecode(t, c.b, c.want, c.why)
	}
}

// TestCuts: a chain's bytes, cut anywhere, and with a byte more.
func TestCuts(t *testing.T) {
	wide := []api.Segment{{End: 1 << 20, Owner: 3}, {Log: 1, Start: 1 << 20, End: 1 << 50}, {Log: 2, Start: 1 << 50, End: top}, {Log: 3, Start: top, End: -1}}
	for _, l := range [][]api.Segment{First(), long(2), long(16), long(17), wide} {
		b, e := Encode(l)
		mustBe(t, e, api.OK, "11.1: Encode")
		for end := range b {
			mustNotDecode(t, b[:end], api.ErrShort, "what is cut")
			mustNotDecode(t, b[:end:end], api.ErrShort, "what is cut")
		}
		for more := range 256 {
			mustNotDecode(t, append(slices.Clone(b), byte(more)), api.ErrForm, "a byte more")
		}
	}
}

// modelDecode reads a chain by the chapter's words, all numbers first.
func modelDecode(b []byte) ([]api.Segment, api.Errno) {
	count, at, e := wire.ReadUint(b, 0)
	if e != api.OK {
		return nil, e
	}
	if count == 0 || count > 17 {
		return nil, api.ErrForm
	}
	var numbers []int
	for len(numbers) < 2*count-1 {
		n, next, e := wire.ReadUint(b, at)
		if e != api.OK {
			return nil, e
		}
		numbers, at = append(numbers, n), next
	}
	var l []api.Segment
	start := uint64(0)
	for i := range count {
		end := start
		if numbers[2*i] > 3 {
			return nil, api.ErrForm
		}
		if i < count-1 {
			end += uint64(numbers[2*i+1])
		}
		if end > top {
			return nil, api.ErrForm
		}
		l = append(l, api.Segment{Log: i, Start: int(start), End: int(end), Owner: numbers[2*i]})
		start = end
	}
	l[count-1].End = -1
	if at != len(b) {
		return nil, api.ErrForm
	}
	return l, api.OK
}

// TestAnyBytes: what is read is a chain, and is written just so; all else is refused as the chapter says.
func TestAnyBytes(t *testing.T) {
	r := rand.New(rand.NewSource(1))
	chains := 0
	for range 200000 {
		var b []byte
		for range r.Intn(8) {
			n := r.Intn(6)
			switch r.Intn(12) {
			case 0:
				n = r.Intn(1 << 20)
			case 1:
				n = top - 3 + r.Intn(6)
			case 2:
				n = math.MaxInt - r.Intn(2)
			case 3:
				b = append(b, byte(128+r.Intn(128)))
			}
			b = append(b, wire.Uint(n)...)
		}
		l, e := Decode(b)
		want, err := modelDecode(b)
		if e != err || !slices.Equal(l, want) {
			t.Fatalf("11.1: Decode of %v: %v, error %d; not %v, error %d", b, l, e, want, err)
		}
		if e != api.OK {
			continue
		}
		chains++
		if again, e := Encode(l); !Right(l) || e != api.OK || !bytes.Equal(again, b) {
			t.Fatalf("11.1: %v is read as %v, which is written as %v, error %d", b, l, again, e)
		}
	}
	if chains < 1000 {
		t.Errorf("11.1: too few chains: %d", chains)
	}
}

// TestChainsMemory: what is handed in stays and is not kept; what is told is new memory.
func TestChainsMemory(t *testing.T) {
	room := append(long(3), api.Segment{Log: 9, Owner: 9})
	b, _ := Encode(room[:3])
	if room[3] != (api.Segment{Log: 9, Owner: 9}) {
		t.Errorf("rule 2: Encode turns the spare room of what is handed in")
	}
	again, _ := Encode(room[:3])
	for i := range b[:cap(b)] {
		b[:cap(b)][i] ^= 255
	}
	if other, _ := Encode(room[:3]); !bytes.Equal(again, other) {
		t.Errorf("rule 2: two answers of Encode share memory")
	}
	full := append(slices.Clone(again), 77)
	first, _ := Decode(full[:len(again)])
	second, _ := Decode(full[:len(again)])
	spoil(first)
	if !slices.Equal(second, long(3)) || full[len(again)] != 77 {
		t.Errorf("rule 2: two answers of Decode share memory: %v", second)
	}
	for i := range full {
		full[i] ^= 255
	}
	if !slices.Equal(second, long(3)) {
		t.Errorf("rule 2: what Decode told hangs on what was handed in: %v", second)
	}
}
