package local

import (
	"bytes"
	"math"
	"slices"
	"strings"
	"testing"

	"headland/api"
	"headland/disk"
)

func TestANewStore(t *testing.T) {
	s, d := newStore(t, 20)
	mustBe(t, s, " at 0", "6.1: of a new disk")
	mustHaveTold(t, s, told{left: 18}, "6.1: of a new disk")
	for space := range api.MaxSpaces {
		mustNotGet(t, s, space, []byte("k"), api.OK, "6.1: of a new disk")
		mustRange(t, s, space, "", "", 9, "", "6.1: of a new disk")
	}
	if d.Open() != 0 {
		t.Error("6.1: Open writes")
	}
	mustBe(t, mustOpen(t, d), " at 0", "6.1: opened twice")
}

func TestExample(t *testing.T) {
	s, d := newStore(t, 30)
	mustApply(t, s, 3, laid(1, "k", "v"))
	mustBe(t, s, "1 k=v at 3", "6.3: Apply")
	mustTell(t, s.Apply(2, []api.Change{laid(1, "l", "w")}), api.ErrArg, "6.2: Apply below Pos()")
	mustApply(t, s, 3)
	mustNotGet(t, s, 2, []byte("k"), api.OK, "6.2: another space")
	mustRange(t, s, 1, "", "", 9, "1 k=v", "6.2: Range")
	mustBe(t, s, "1 k=v at 3", "6.3: Apply of nothing")
	mustBe(t, mustOpen(t, d), "1 k=v at 3", "6.1: opened anew")
}

func TestSpaces(t *testing.T) {
	s, d := newStore(t, 60)
	for space := range api.MaxSpaces {
		mustApply(t, s, 0, laid(space, "k", string(rune('a'+space))))
	}
	for space := range api.MaxSpaces {
		value := string(rune('a' + space))
		mustGet(t, s, space, "k", value, "6.1: one key in each space")
		mustRange(t, s, space, "", "", 9, spelled([]api.Pair{pair(space, "k", value)}), "6.1: one key in each space")
	}
	was, all := allTold(s), whole(t, s)
	for _, space := range []int{-1, 16, 17, 255, 256, 256 + 1, -255, -256, math.MinInt, math.MaxInt} {
		mustNotGet(t, s, space, []byte("k"), api.ErrArg, "6.2: no space")
		mustNotRange(t, s, space, nil, nil, 9, api.ErrArg, "6.2: no space")
		for _, isGone := range []bool{false, true} {
			c := api.Change{Pair: pair(space, "k", "v"), Gone: isGone}
			mustTell(t, s.Apply(9, []api.Change{c}), api.ErrArg, "6.2: Apply in no space")
		}
		mustTell(t, s.Import([]api.Pair{pair(space, "k", "v")}, 9), api.ErrArg, "6.2: Import in no space")
		if s.Len(space) != 0 {
			t.Errorf("6.2: Len of no space: %d", s.Len(space))
		}
	}
	mustHaveTold(t, s, was, "rule 4: behind ErrArg")
	mustBe(t, s, all, "rule 4: behind ErrArg")
	mustBe(t, mustOpen(t, d), all, "6.1: opened anew")
}

func TestKeysAndValues(t *testing.T) {
	s, d := newStore(t, 200)
	keys := []string{"\x00", "\x00\x00", "a", "aa", "ab", "b", "\xff", "\xff\xff", strings.Repeat("\xff", 60), strings.Repeat("k", 59), strings.Repeat("k", 60), strings.Repeat("\x00", 60)}
	values := []string{"", "v", strings.Repeat("w", 1799), strings.Repeat("x", 1800), "\x00"}
	var want []api.Pair
	for _, space := range []int{0, 1, 14, 15} {
		for i, k := range keys {
			v := values[(i+space)%5]
			mustApply(t, s, space, laid(space, k, v))
			want = append(want, pair(space, k, v))
		}
		if s.Len(space) != len(keys) {
			t.Errorf("6.2: Len of %d: %d", space, s.Len(space))
		}
	}
	slices.SortFunc(want, func(a, b api.Pair) int {
		if a.Space != b.Space {
			return a.Space - b.Space
		}
		return bytes.Compare(a.Key, b.Key)
	})
	mustBe(t, s, spelled(want)+" at 15", "6.1: keys and values")
	mustBe(t, mustOpen(t, d), spelled(want)+" at 15", "6.1: keys and values, opened anew")
	other, _ := newStore(t, 200)
	mustImport(t, other, 15, want...)
	mustBe(t, other, spelled(want)+" at 15", "6.4: keys and values")
}

// refusals are calls that are refused, whatever the store has: want is by what.
func refusals(s *Store, key, value []byte) map[string]api.Errno {
	_, _, get := s.Get(1, key)
	_, lo := s.Range(1, key, nil, 9)
	_, hi := s.Range(1, nil, key, 9)
	right := laid(1, "right", "1")
	p := api.Pair{Space: 1, Key: key, Value: value}
	return map[string]api.Errno{
		"Get":          get,
		"Range, lo":    lo,
		"Range, hi":    hi,
		"Apply":        s.Apply(99, []api.Change{right, {Pair: p}, right}),
		"Apply, gone":  s.Apply(99, []api.Change{right, {Pair: p, Gone: true}, right}),
		"Import":       s.Import([]api.Pair{right.Pair, p}, 99),
		"Import, last": s.Import([]api.Pair{p, right.Pair}, 99),
	}
}

func TestWrongKeysAndValues(t *testing.T) {
	s, d := newStore(t, 60)
	mustApply(t, s, 5, laid(1, "k", "v"), laid(1, "l", "w"))
	was, all := allTold(s), whole(t, s)
	long := func(n int) []byte { return make([]byte, n) }
	for what, e := range refusals(s, nil, nil) {
		want := api.ErrArg
		if strings.HasPrefix(what, "Range") {
			want = api.OK
		}
		mustTell(t, e, want, "6.2: "+what+" of an empty key")
	}
	for _, n := range []int{61, 62, 63, 64, 65, 1000} {
		for what, e := range refusals(s, long(n), nil) {
			mustTell(t, e, api.ErrLong, "6.2: "+what+" of a key that is too long")
		}
	}
	for _, n := range []int{1801, 8192, 10000} {
		for what, e := range refusals(s, []byte("k"), long(n)) {
			want := api.ErrLong
			if !strings.HasPrefix(what, "Apply") && !strings.HasPrefix(what, "Import") {
				want = api.OK
			}
			mustTell(t, e, want, "6.2: "+what+" of a value that is too long")
		}
	}
	mustHaveTold(t, s, was, "rule 4: behind refusals")
	mustBe(t, s, all, "rule 4: behind refusals")
	if d.Open() != 0 {
		t.Error("rule 4: a refused call writes")
	}
	mustBe(t, mustOpen(t, d), all, "rule 4: behind refusals, opened anew")
}

// TestTheOrderOfRefusals: ErrArg of whatever is handed in is ahead of ErrLong of whatever is.
func TestTheOrderOfRefusals(t *testing.T) {
	s, d := newStore(t, 60)
	mustApply(t, s, 5, laid(1, "k", "v"))
	long, longest := make([]byte, 61), make([]byte, 1801)
	longKey := api.Change{Pair: api.Pair{Space: 1, Key: long}}
	longValue := api.Change{Pair: api.Pair{Space: 1, Key: []byte("k"), Value: longest}}
	wrongs := []api.Change{
		{Pair: api.Pair{Space: 16, Key: long}}, {Pair: api.Pair{Space: -1, Key: []byte("k"), Value: longest}},
		{Pair: api.Pair{Space: 1, Value: longest}}, {Pair: api.Pair{Space: 1}, Gone: true},
	}
	tell := func(want api.Errno, why string) {
		t.Helper()
		mustNotGet(t, s, 16, long, want, why)
		mustNotGet(t, s, -1, nil, want, why)
		mustNotRange(t, s, 1, long, nil, -1, want, why)
		mustNotRange(t, s, 16, nil, long, 1, want, why)
		for _, wrong := range wrongs {
			for _, l := range [][]api.Change{{wrong, longKey, longValue}, {longKey, longValue, wrong}, {longValue, wrong}} {
				mustTell(t, s.Apply(5, l), want, why)
			}
			if !wrong.Gone {
				mustTell(t, s.Import([]api.Pair{longKey.Pair, wrong.Pair}, 0), want, why)
				mustTell(t, s.Import([]api.Pair{longValue.Pair, wrong.Pair}, 0), want, why)
			}
		}
		mustTell(t, s.Apply(4, []api.Change{longKey}), want, why)
		mustTell(t, s.Import([]api.Pair{longValue.Pair}, -1), want, why)
	}
	tell(api.ErrArg, "6.2: ErrArg ahead of ErrLong")
	mustBe(t, s, "1 k=v at 5", "rule 4: behind refusals")
	d.Cut(disk.Loss{Torn: -1})
	tell(api.ErrDown, "6.2: ErrDown ahead of ErrArg")
	d.Restart()
	tell(api.ErrDown, "6.2: ErrDown ahead of ErrArg, with power again")
}

func TestRange(t *testing.T) {
	s, _ := newStore(t, 60)
	mustApply(t, s, 1, laid(0, "x", "0"), laid(1, "a", "1"), laid(1, "ab", "2"), laid(1, "b", "3"), laid(1, "\xff\xff", "4"), laid(2, "a", "5"), laid(15, "z", "6"), laid(15, "\xff", "7"))
	for _, c := range []struct {
		space  int
		lo, hi string
		most   int
		want   string
	}{
		{1, "", "", 9, "1 a=1, 1 ab=2, 1 b=3, 1 \xff\xff=4"},
		{1, "", "", 4, "1 a=1, 1 ab=2, 1 b=3, 1 \xff\xff=4"},
		{1, "", "", 3, "1 a=1, 1 ab=2, 1 b=3"},
		{1, "", "", 1, "1 a=1"},
		{1, "", "", 0, ""},
		{1, "", "", math.MaxInt, "1 a=1, 1 ab=2, 1 b=3, 1 \xff\xff=4"},
		{1, "a", "", 9, "1 a=1, 1 ab=2, 1 b=3, 1 \xff\xff=4"},
		{1, "a\x00", "", 2, "1 ab=2, 1 b=3"},
		{1, "aa", "b", 9, "1 ab=2"},
		{1, "", "ab", 9, "1 a=1"},
		{1, "", "a", 9, ""},
		{1, "", "\x00", 9, ""},
		{1, "a", "a", 9, ""},
		{1, "b", "a", 9, ""},
		{1, "b", "\xff\xff", 9, "1 b=3"},
		{1, "\xff", "", 9, "1 \xff\xff=4"},
		{1, "\xff\xff\x00", "", 9, ""},
		{1, strings.Repeat("\xff", 60), "", 9, ""},
		{1, "", strings.Repeat("\xff", 60), 9, "1 a=1, 1 ab=2, 1 b=3, 1 \xff\xff=4"},
		{1, "", strings.Repeat("\x00", 60), 9, ""},
		{0, "", "", 9, "0 x=0"},
		{2, "", "", 9, "2 a=5"},
		{3, "", "", 9, ""},
		{14, "", "", 9, ""},
		{15, "", "", 9, "15 z=6, 15 \xff=7"},
		{15, "zz", "", 9, "15 \xff=7"},
	} {
		mustRange(t, s, c.space, c.lo, c.hi, c.most, c.want, "6.2")
	}
	for _, most := range []int{-1, -9, math.MinInt} {
		mustNotRange(t, s, 1, nil, nil, most, api.ErrArg, "6.2: most below 0")
		mustNotRange(t, s, 1, []byte("b"), []byte("a"), most, api.ErrArg, "6.2: most below 0")
	}
	mustNotRange(t, s, 1, make([]byte, 61), []byte("a"), 0, api.ErrLong, "6.2: a bound that is too long, of nothing")
	for space, want := range map[int]int{-1: 0, 0: 1, 1: 4, 2: 1, 3: 0, 14: 0, 15: 2, 16: 0} {
		if s.Len(space) != want {
			t.Errorf("6.2: Len of %d: %d, not %d", space, s.Len(space), want)
		}
	}
}

func TestApply(t *testing.T) {
	s, d := newStore(t, 60)
	all := []struct {
		pos  int
		l    []api.Change
		want string
	}{
		{0, nil, " at 0"},
		{0, []api.Change{laid(1, "k", "1")}, "1 k=1 at 0"},
		{4, nil, "1 k=1 at 4"},
		{4, []api.Change{gone(1, "k")}, " at 4"},
		{4, []api.Change{gone(1, "k"), gone(2, "k"), gone(1, "kk")}, " at 4"},
		{5, []api.Change{laid(1, "k", "1"), laid(1, "k", "2"), laid(1, "k", "3")}, "1 k=3 at 5"},
		{6, []api.Change{gone(1, "k"), laid(1, "k", "4")}, "1 k=4 at 6"},
		{6, []api.Change{laid(1, "k", "5"), gone(1, "k")}, " at 6"},
		{6, []api.Change{gone(1, "k"), laid(1, "k", "6"), gone(1, "k"), laid(1, "k", "7"), laid(0, "k", "")}, "0 k=, 1 k=7 at 6"},
		{7, []api.Change{{Pair: pair(0, "k", "value of one that is gone"), Gone: true}, laid(15, "z", "8")}, "1 k=7, 15 z=8 at 7"},
		{7, []api.Change{laid(1, "k", "7")}, "1 k=7, 15 z=8 at 7"},
		{7, []api.Change{gone(1, "z"), gone(14, "z"), laid(14, "y", "")}, "1 k=7, 14 y=, 15 z=8 at 7"},
		{1 << 31, nil, "1 k=7, 14 y=, 15 z=8 at 2147483648"},
		{math.MaxInt - 1, []api.Change{gone(14, "y")}, "1 k=7, 15 z=8 at 9223372036854775806"},
		{math.MaxInt, []api.Change{gone(15, "z")}, "1 k=7 at 9223372036854775807"},
		{math.MaxInt, []api.Change{gone(1, "k")}, " at 9223372036854775807"},
	}
	for i, c := range all {
		for _, below := range []int{s.Pos() - 1, -1, math.MinInt} {
			if below < s.Pos() {
				was := allTold(s)
				mustTell(t, s.Apply(below, c.l), api.ErrArg, "6.2: a position below Pos()")
				mustTell(t, s.Apply(below, nil), api.ErrArg, "6.2: a position below Pos()")
				mustHaveTold(t, s, was, "rule 4: behind ErrArg")
			}
		}
		mustApply(t, s, c.pos, c.l...)
		mustBe(t, s, c.want, "6.3: Apply")
		if s.Number() != i+1 {
			t.Fatalf("6.3: %d Commits, not %d", s.Number(), i+1)
		}
		if d.Open() != 0 {
			t.Fatal("6.3: open writes behind an Apply")
		}
		mustBe(t, mustOpen(t, d), c.want, "6.1: opened anew")
	}
}

func TestOneWrongChange(t *testing.T) {
	s, d := newStore(t, 60)
	mustApply(t, s, 5, laid(1, "k", "v"), laid(2, "l", "w"))
	was, all := allTold(s), whole(t, s)
	for why, c := range map[string]struct {
		wrong api.Change
		want  api.Errno
	}{
		"a space above":    {laid(16, "k", ""), api.ErrArg},
		"a space below":    {laid(-1, "k", ""), api.ErrArg},
		"a space, gone":    {gone(16, "k"), api.ErrArg},
		"no key":           {laid(1, "", ""), api.ErrArg},
		"no key, gone":     {gone(1, ""), api.ErrArg},
		"a long key":       {laid(1, strings.Repeat("k", 61), ""), api.ErrLong},
		"a long key, gone": {gone(1, strings.Repeat("k", 61)), api.ErrLong},
		"a long value":     {laid(1, "k", strings.Repeat("k", 1801)), api.ErrLong},
	} {
		right := []api.Change{laid(1, "new", ""), gone(1, "k"), laid(2, "l", "other")}
		for at := range 4 {
			mustTell(t, s.Apply(9, slices.Insert(slices.Clone(right), at, c.wrong)), c.want, "6.3: "+why)
			if !c.wrong.Gone {
				pairs := slices.Insert([]api.Pair{right[0].Pair, right[1].Pair, right[2].Pair}, at, c.wrong.Pair)
				mustTell(t, s.Import(pairs, 9), c.want, "6.4: "+why)
			}
			mustHaveTold(t, s, was, "6.3: "+why)
		}
		mustBe(t, s, all, "6.3: "+why)
		mustBe(t, mustOpen(t, d), all, "6.3: opened anew, "+why)
	}
	mustTell(t, s.Import([]api.Pair{pair(1, "new", "")}, -1), api.ErrArg, "6.4: a position below 0")
	mustTell(t, s.Import(nil, math.MinInt), api.ErrArg, "6.4: a position below 0")
	mustHaveTold(t, s, was, "6.4: a position below 0")
	mustBe(t, s, all, "6.4: a position below 0")
}

func TestExport(t *testing.T) {
	s, _ := newStore(t, 60)
	if l, pos, e := s.Export(); len(l) != 0 || pos != 0 || e != api.OK {
		t.Errorf("6.4: Export of an empty store: %d pairs, %d, %d", len(l), pos, e)
	}
	mustApply(t, s, 9, laid(15, "a", "1"), laid(0, "z", "2"), laid(1, "b", "3"), laid(1, "a", "4"), laid(1, "aa", "5"), laid(10, "c", ""), laid(2, "\x00", "6"))
	mustBe(t, s, "0 z=2, 1 a=4, 1 aa=5, 1 b=3, 2 \x00=6, 10 c=, 15 a=1 at 9", "6.4: by space, then by key")
	number := s.Number()
	whole(t, s)
	if s.Number() != number {
		t.Error("6.4: Export commits")
	}
}

func TestImport(t *testing.T) {
	s, d := newStore(t, 60)
	for i, c := range []struct {
		pos  int
		l    []api.Pair
		want string
	}{
		{0, nil, " at 0"},
		{7, nil, " at 7"},
		{3, []api.Pair{pair(1, "k", "1")}, "1 k=1 at 3"},
		{3, []api.Pair{pair(1, "k", "2")}, "1 k=2 at 3"},
		{2, []api.Pair{pair(2, "b", "1"), pair(1, "c", "2"), pair(2, "a", "3")}, "1 c=2, 2 a=3, 2 b=1 at 2"},
		{9, []api.Pair{pair(1, "k", "1"), pair(2, "k", "2"), pair(1, "k", "3"), pair(1, "k", "4"), pair(2, "k", "")}, "1 k=4, 2 k= at 9"},
		{9, filled(20), ""},
		{0, []api.Pair{pair(15, "z", "")}, "15 z= at 0"},
		{0, nil, " at 0"},
		{math.MaxInt, filled(9), ""},
		{5, nil, " at 5"},
		{math.MaxInt, []api.Pair{pair(0, "z", "")}, "0 z= at 9223372036854775807"},
		{0, nil, " at 0"},
	} {
		mustImport(t, s, c.pos, c.l...)
		if c.want != "" {
			mustBe(t, s, c.want, "6.4: Import")
		}
		if s.Number() != i+1 || d.Open() != 0 {
			t.Fatalf("6.4: %d Commits, not %d; %d open writes", s.Number(), i+1, d.Open())
		}
		mustBe(t, mustOpen(t, d), whole(t, s), "6.1: opened anew")
	}
	mustHaveTold(t, s, told{number: 13, left: 58}, "6.4: Import of nothing")
}

// TestApplyBehindImport: a position that Import set back is where Apply goes on.
func TestApplyBehindImport(t *testing.T) {
	s, _ := newStore(t, 60)
	mustApply(t, s, 9, laid(1, "k", "v"))
	mustImport(t, s, 4, pair(2, "l", "w"))
	mustTell(t, s.Apply(3, nil), api.ErrArg, "6.2: below Pos()")
	mustApply(t, s, 4, laid(2, "m", "x"), gone(1, "k"))
	mustBe(t, s, "2 l=w, 2 m=x at 4", "6.3: Apply behind Import")
	mustApply(t, s, 8, gone(2, "l"))
	mustBe(t, s, "2 m=x at 8", "6.3: Apply behind Import")
}

func TestImportOfAnExport(t *testing.T) {
	for _, count := range []int{0, 1, 4, 5, 30, 120} {
		a, _ := newStore(t, 400)
		mustImport(t, a, count, filled(count)...)
		b, d := newStore(t, 400)
		mustApply(t, b, 1000, laid(3, "k0003", "another value"), laid(3, "other", "v"), laid(7, "z", ""))
		l, pos, e := a.Export()
		mustTell(t, e, api.OK, "6.4: Export")
		mustImport(t, b, pos, l...)
		mustBe(t, b, whole(t, a), "6.6: another one's Export")
		mustBe(t, mustOpen(t, d), whole(t, a), "6.6: opened anew")
		mustImport(t, a, pos, l...)
		mustBe(t, a, whole(t, b), "6.6: its own Export")
	}
}

func TestMemory(t *testing.T) {
	s, _ := newStore(t, 100)
	var rooms, copies [][]byte
	hand := func(text string) []byte {
		b, room := spacious(text)
		rooms, copies = append(rooms, room), append(copies, bytes.Clone(room))
		return b
	}
	var l []api.Change
	var pairs []api.Pair
	for i := range 9 {
		p := api.Pair{Space: i % 3, Key: hand(strings.Repeat("k", i+1)), Value: hand(strings.Repeat("v", i))}
		l, pairs = append(l, api.Change{Pair: p}, api.Change{Pair: p, Gone: i == 4}), append(pairs, p)
	}
	changes, handed := slices.Clone(l), slices.Clone(pairs)
	mustApply(t, s, 5, l[:12]...)
	mustApply(t, s, 5, l...)
	all := whole(t, s)
	s.Get(0, pairs[0].Key)
	s.Range(0, pairs[0].Key, pairs[6].Key, 9)
	mustStay := func(why string) {
		t.Helper()
		for i, r := range rooms {
			if !bytes.Equal(r, copies[i]) {
				t.Fatalf("rule 2: %s changed what was handed in", why)
			}
		}
		if !slices.EqualFunc(l, changes, func(a, b api.Change) bool {
			return a.Gone == b.Gone && spelled([]api.Pair{a.Pair}) == spelled([]api.Pair{b.Pair})
		}) || spelled(pairs) != spelled(handed) {
			t.Fatalf("rule 2: %s changed what was handed in", why)
		}
	}
	mustStay("Apply")
	scribble := func() {
		for _, r := range rooms {
			for i := range r {
				r[i] = '#'
			}
		}
		clear(l)
		clear(pairs)
	}
	scribble()
	mustBe(t, s, all, "rule 2: what was handed in is not kept")
	rooms, copies = nil, nil
	for i := range 9 {
		pairs[i] = api.Pair{Space: i % 2, Key: hand(strings.Repeat("m", i+1)), Value: hand(strings.Repeat("w", i))}
	}
	l, changes, handed = nil, nil, slices.Clone(pairs)
	mustImport(t, s, 7, pairs...)
	mustStay("Import")
	all = whole(t, s)
	scribble()
	mustBe(t, s, all, "rule 2: what was handed in is not kept")
}

// spoil overwrites an answer, its spare room too.
func spoil(l []api.Pair) {
	for i := range l {
		for _, b := range [][]byte{l[i].Key, l[i].Value} {
			b = b[:cap(b)]
			for j := range b {
				b[j] = '#'
			}
		}
	}
	clear(l[:cap(l)])
}

func TestAnswersAreNewMemory(t *testing.T) {
	s, d := newStore(t, 100)
	mustImport(t, s, 3, filled(30)...)
	all := whole(t, s)
	l, _, _ := s.Export()
	again, _, _ := s.Export()
	ranged, _ := s.Range(3, nil, nil, 99)
	value, _, _ := s.Get(0, []byte("k0000"))
	spoil(l)
	if spelled(again)+" at 3" != all {
		t.Error("rule 2: two Exports share memory")
	}
	if spelled(ranged) != spelled(again[6:12]) {
		t.Errorf("rule 2: Export and Range share memory: %s", spelled(ranged))
	}
	spoil(ranged)
	spoil([]api.Pair{{Value: value}})
	mustBe(t, s, all, "rule 2: answers that were overwritten")
	mustBe(t, mustOpen(t, d), all, "rule 2: answers that were overwritten")
	mustNotShare(t, again)
	ranged, _ = s.Range(6, nil, nil, 99)
	mustNotShare(t, ranged)
	mustBe(t, s, all, "rule 2: answers that were overwritten")
}

// mustNotShare says that no two lists of an answer share memory: each is filled with a number of its own.
func mustNotShare(t *testing.T, l []api.Pair) {
	t.Helper()
	var parts [][]byte
	for _, p := range l {
		parts = append(parts, p.Key[:cap(p.Key)], p.Value[:cap(p.Value)])
	}
	for i, b := range parts {
		for j := range b {
			b[j] = byte(i)
		}
	}
	for i, b := range parts {
		if len(b) == 0 || len(b) != bytes.Count(b, []byte{byte(i)}) {
			t.Fatalf("rule 2: list %d of %d shares memory", i, len(parts))
		}
	}
}
