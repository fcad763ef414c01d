package draft

import (
	"math"
	"strings"
	"testing"

	"headland/api"
	"headland/disk"
)

func TestNew(t *testing.T) {
	if d, e := New(nil); d != nil || e != api.ErrArg {
		t.Errorf("13.1: New of no store: %v, %d", d, e)
	}
	s, x := newStore(t, pair(1, "a", "1"))
	d := mustDraft(t, s)
	if d.Mark() != 0 || len(d.Changes()) != 0 {
		t.Errorf("13.1: a new draft has %d changes", d.Mark())
	}
	mustBe(t, d, "1 a=1", "13.1: a new draft")
	x.Cut(disk.Loss{Torn: -1})
	if d, e := New(s); d != nil || e != api.ErrDown {
		t.Errorf("13.1: New of a dead store: %v, %d", d, e)
	}
	x.Restart()
	if d, e := New(s); d != nil || e != api.ErrDown {
		t.Errorf("13.1: New of a dead store, with power again: %v, %d", d, e)
	}
}

func TestExample(t *testing.T) {
	d, _ := newDraft(t)
	mustMake(t, d, laid(1, "k", "a"))
	if d.Mark() != 1 {
		t.Fatalf("13.2: Mark %d", d.Mark())
	}
	mustMake(t, d, gone(1, "k"))
	mustNotGet(t, d, 1, "k", api.OK, "13.1: taken away")
	mustTell(t, d.Back(1), api.OK, "13.2: Back")
	mustGet(t, d, 1, "k", "a", "13.2: behind Back")
	mustChange(t, d, "1 k=a", "13.2: behind Back")
}

// TestWhoHasAKey: each way in which the store and the changes may have a key, read by Get and by Range.
func TestWhoHasAKey(t *testing.T) {
	const absent = "absent"
	for why, c := range map[string]struct {
		store, want string
		changes     []api.Change
	}{
		"neither":                           {absent, absent, nil},
		"the store alone":                   {"s", "s", nil},
		"the store alone, empty":            {"", "", nil},
		"the store, and others are changed": {"s", "s", []api.Change{laid(1, "j", "v"), gone(1, "l"), gone(2, "k"), laid(0, "k", "v"), gone(1, "kk"), laid(1, "k\x00", "")}},
		"others are changed":                {absent, absent, []api.Change{laid(1, "j", "v"), gone(1, "l"), gone(2, "k"), laid(0, "k", "v"), gone(1, "kk"), laid(1, "k\x00", "")}},
		"the changes alone":                 {absent, "v", []api.Change{laid(1, "k", "v")}},
		"the changes alone, empty":          {absent, "", []api.Change{laid(1, "k", "")}},
		"both":                              {"s", "v", []api.Change{laid(1, "k", "v")}},
		"both, empty":                       {"s", "", []api.Change{laid(1, "k", "")}},
		"both alike":                        {"s", "s", []api.Change{laid(1, "k", "s")}},
		"put twice":                         {absent, "w", []api.Change{laid(1, "k", "v"), laid(1, "k", "w")}},
		"put twice over the store's":        {"s", "w", []api.Change{laid(1, "k", "v"), laid(1, "k", "w")}},
		"put, and taken away":               {absent, absent, []api.Change{laid(1, "k", "v"), gone(1, "k")}},
		"put over, and taken away":          {"s", absent, []api.Change{laid(1, "k", "v"), gone(1, "k")}},
		"taken away":                        {"s", absent, []api.Change{gone(1, "k")}},
		"taken away twice":                  {"s", absent, []api.Change{gone(1, "k"), gone(1, "k")}},
		"taken away, and put again":         {"s", "v", []api.Change{gone(1, "k"), laid(1, "k", "v")}},
		"taken away, and put as it was":     {"s", "s", []api.Change{gone(1, "k"), laid(1, "k", "s")}},
		"taken away without being there":    {absent, absent, []api.Change{gone(1, "k")}},
		"away without being there, and put": {absent, "v", []api.Change{gone(1, "k"), laid(1, "k", "v")}},
		"put, away, put, away":              {"s", absent, []api.Change{laid(1, "k", "v"), gone(1, "k"), laid(1, "k", "w"), gone(1, "k")}},
		"away, put, away, put":              {"s", "w", []api.Change{gone(1, "k"), laid(1, "k", "v"), gone(1, "k"), laid(1, "k", "w")}},
		"put, others changed":               {"s", "v", []api.Change{laid(1, "k", "v"), gone(2, "k"), laid(1, "kk", "w"), gone(0, "k")}},
		"taken away, others changed":        {"s", absent, []api.Change{gone(1, "k"), laid(2, "k", "v"), laid(1, "kk", "w"), laid(0, "k", "v")}},
	} {
		var had []api.Pair
		if c.store != absent {
			had = []api.Pair{pair(1, "k", c.store)}
		}
		d, s := newDraft(t, had...)
		mustMake(t, d, c.changes...)
		ranged := ""
		if c.want == absent {
			mustNotGet(t, d, 1, "k", api.OK, "13.1: "+why)
		} else {
			mustGet(t, d, 1, "k", c.want, "13.1: "+why)
			ranged = "1 k=" + c.want
		}
		mustRange(t, d, 1, "k", "k\x00", 9, ranged, "13.1: "+why)
		mustBe(t, s, spelled(had), "13.1: the store, "+why)
		told := whole(t, d)
		mustTell(t, s.Apply(4, d.Changes()), api.OK, "13.3: Apply")
		mustBe(t, s, told, "13.3: "+why)
	}
}

// ranged is a draft whose pairs come from the store, from the changes and from both; told are those of its space 1.
func ranged(t *testing.T) (d *Draft, told []api.Pair) {
	t.Helper()
	d, _ = newDraft(t, pair(0, "z", "0"), pair(0, "\xff\xff", "0"),
		pair(1, "a", "1"), pair(1, "ab", "2"), pair(1, "b", "3"), pair(1, "c", "4"), pair(1, "e", "5"), pair(1, "\xff\xff", "6"),
		pair(2, "a", "7"), pair(15, "\xff", "8"))
	mustMake(t, d, gone(1, "a"), laid(1, "aa", "9"), laid(1, "b", "10"), gone(1, "c"), laid(1, "d", "11"), laid(1, "\x00", "12"),
		gone(0, "z"), laid(0, "b", "13"), gone(2, "b"), laid(2, "\x00", "14"), laid(15, "z", "15"), gone(1, "x"), laid(1, "y", ""), gone(1, "y"),
		laid(1, strings.Repeat("\xff", 60), "16"), gone(3, "a"), laid(14, "n", "17"), gone(14, "n"))
	return d, []api.Pair{pair(1, "\x00", "12"), pair(1, "aa", "9"), pair(1, "ab", "2"), pair(1, "b", "10"), pair(1, "d", "11"), pair(1, "e", "5"), pair(1, "\xff\xff", "6"), pair(1, strings.Repeat("\xff", 60), "16")}
}

// TestRange: from each end to each end, and without ends.
func TestRange(t *testing.T) {
	d, told := ranged(t)
	ends := []string{"", "\x00", "\x00\x00", "a", "a\x00", "aa", "ab", "ab\x00", "b", "bb", "c", "d", "e", "f", "x", "y", "\xff", "\xff\xff", "\xff\xff\x00", strings.Repeat("\x00", 60), strings.Repeat("\xff", 59), strings.Repeat("\xff", 60)}
	for _, lo := range ends {
		for _, hi := range ends {
			var want []api.Pair
			for _, p := range told {
				if string(p.Key) >= lo && (hi == "" || string(p.Key) < hi) {
					want = append(want, p)
				}
			}
			for _, most := range []int{0, 1, 2, 3, len(told) - 1, len(told), len(told) + 1, 99, math.MaxInt - 99, math.MaxInt - 9, math.MaxInt - 8, math.MaxInt - 1, math.MaxInt} {
				mustRange(t, d, 1, lo, hi, most, spelled(want[:min(most, len(want))]), "13.1")
			}
		}
	}
}

func TestSpacesSideBySide(t *testing.T) {
	d, told := ranged(t)
	for space, want := range map[int]string{
		0: "0 b=13, 0 \xff\xff=0", 1: spelled(told), 2: "2 \x00=14, 2 a=7", 3: "", 4: "", 13: "", 14: "", 15: "15 z=15, 15 \xff=8",
	} {
		mustRange(t, d, space, "", "", 9, want, "13.1: spaces side by side")
	}
	mustRange(t, d, 0, "b", "", 1, "0 b=13", "13.1: spaces side by side")
	mustRange(t, d, 0, "c", "", 9, "0 \xff\xff=0", "13.1: spaces side by side")
	mustRange(t, d, 15, "zz", "", 9, "15 \xff=8", "13.1: spaces side by side")
}

// TestAllOfTheFirstAreTakenAway: what is told first stands far behind in the store.
func TestAllOfTheFirstAreTakenAway(t *testing.T) {
	var had []api.Pair
	for i := range 40 {
		had = append(had, pair(1, string(rune('0'+i)), "s"))
	}
	for _, away := range []int{0, 1, 5, 20, 38, 39, 40} {
		d, s := newDraft(t, had...)
		for _, p := range had[:away] {
			mustMake(t, d, api.Change{Pair: p, Gone: true}, laid(1, string(p.Key)+"x", ""), gone(1, string(p.Key)+"x"))
		}
		for _, most := range []int{0, 1, 2, 39, 40, 41} {
			mustRange(t, d, 1, "", "", most, spelled(had[away:min(away+most, 40)]), "13.1: the first ones are taken away")
		}
		mustTell(t, s.Apply(4, d.Changes()), api.OK, "13.3: Apply")
		mustBe(t, s, spelled(had[away:]), "13.3: the first ones are taken away")
	}
}

func TestWhatIsRead(t *testing.T) {
	d, _ := ranged(t)
	told, changes := whole(t, d), spelledChanges(d.Changes())
	long := strings.Repeat("k", 61)
	for _, space := range []int{-1, 16, 17, 256, 257, -255, math.MinInt, math.MaxInt} {
		mustNotGet(t, d, space, "a", api.ErrArg, "13.1: no space")
		mustNotGet(t, d, space, long, api.ErrArg, "13.1: ErrArg ahead of ErrLong")
		mustNotRange(t, d, space, "", "", 9, api.ErrArg, "13.1: no space")
		mustNotRange(t, d, space, long, long, 9, api.ErrArg, "13.1: ErrArg ahead of ErrLong")
	}
	mustNotGet(t, d, 1, "", api.ErrArg, "13.1: an empty key")
	mustNotGet(t, d, 1, long, api.ErrLong, "13.1: a long key")
	mustNotGet(t, d, 1, strings.Repeat("k", 60), api.OK, "13.1: the longest key")
	mustGet(t, d, 1, strings.Repeat("\xff", 60), "16", "13.1: the longest key")
	for _, most := range []int{-1, -2, -d.Mark(), -d.Mark() - 1, -99, math.MinInt, math.MinInt + 9} {
		mustNotRange(t, d, 1, "", "", most, api.ErrArg, "13.1: most below 0")
		mustNotRange(t, d, 1, "b", "a", most, api.ErrArg, "13.1: most below 0")
		mustNotRange(t, d, 1, long, "", most, api.ErrArg, "13.1: ErrArg ahead of ErrLong")
	}
	for _, most := range []int{0, 1, 9} {
		mustNotRange(t, d, 1, long, "", most, api.ErrLong, "13.1: a long lo")
		mustNotRange(t, d, 1, "", long, most, api.ErrLong, "13.1: a long hi")
		mustNotRange(t, d, 1, long, "a", most, api.ErrLong, "13.1: a long lo, of nothing")
	}
	mustBe(t, d, told, "rule 4: behind refusals")
	mustChange(t, d, changes, "rule 4: behind refusals")
}

func TestWhatIsChanged(t *testing.T) {
	long, longest := strings.Repeat("k", 60), strings.Repeat("v", 1800)
	for _, c := range []api.Change{
		laid(0, "k", "v"), laid(15, "k", "v"), laid(1, "k", ""), laid(1, "\x00", "v"), laid(1, long, "v"), laid(1, "k", longest), laid(15, long, longest), laid(0, long[1:], longest[1:]),
		gone(0, "k"), gone(15, "k"), gone(1, "\x00"), gone(1, long), gone(1, long[1:]),
	} {
		d, s := newDraft(t, pair(1, "kept", "s"))
		mustMake(t, d, c)
		mustChange(t, d, spelledChanges([]api.Change{c}), "13.1: a change more")
		if c.Gone {
			mustNotGet(t, d, c.Space, string(c.Key), api.OK, "13.1: Delete")
		} else {
			mustGet(t, d, c.Space, string(c.Key), string(c.Value), "13.1: Put")
			mustRange(t, d, c.Space, string(c.Key), "", 1, spelled([]api.Pair{c.Pair}), "13.1: Put")
		}
		told := whole(t, d)
		mustTell(t, s.Apply(3, d.Changes()), api.OK, "13.3: Apply")
		mustBe(t, s, told, "13.3: a change")
	}
}

func TestChangesThatAreRefused(t *testing.T) {
	d, s := newDraft(t, pair(1, "a", "s"))
	mustMake(t, d, laid(1, "b", "v"), gone(1, "a"))
	long, longest := strings.Repeat("k", 61), strings.Repeat("v", 1801)
	wrong := []api.Change{
		laid(-1, "k", "v"), laid(16, "k", "v"), laid(256, "k", "v"), laid(math.MinInt, "k", ""), laid(math.MaxInt, "k", ""), laid(1, "", "v"), laid(0, "", ""),
		gone(-1, "k"), gone(16, "k"), gone(257, "k"), gone(math.MinInt, "k"), gone(math.MaxInt, "k"), gone(1, ""), gone(15, ""),
		laid(-1, "", ""), laid(16, long, "v"), laid(-1, "k", longest), laid(16, long, longest), laid(1, "", longest), laid(-1, "", longest), gone(16, long), gone(-1, ""),
	}
	tooLong := []api.Change{
		laid(1, long, "v"), laid(0, long, ""), laid(15, long+"k", "v"), laid(1, "k", longest), laid(1, "a", longest), laid(1, long, longest), laid(1, "k", strings.Repeat(longest, 6)), laid(1, strings.Repeat(long, 99), ""),
		gone(1, long), gone(15, long+"kkk"), gone(0, strings.Repeat(long, 99)),
	}
	mustRefuse := func(l []api.Change, want api.Errno) {
		t.Helper()
		for i, c := range l {
			if e := maker(d, c); e != want || d.Mark() != 2 {
				t.Fatalf("13.1: change %d: %d, not %d; Mark %d", i, e, want, d.Mark())
			}
		}
	}
	mustRefuse(wrong, api.ErrArg)
	mustRefuse(tooLong, api.ErrLong)
	mustBe(t, d, "1 b=v", "rule 4: behind refusals")
	mustChange(t, d, "no 1 a=, 1 b=v", "rule 4: behind refusals")
	mustBe(t, s, "1 a=s", "rule 4: behind refusals, the store")
	mustTell(t, d.Put(1, nil, nil), api.ErrArg, "13.1: no key")
	mustTell(t, d.Delete(1, nil), api.ErrArg, "13.1: no key")
	mustTell(t, d.Put(1, []byte("n"), nil), api.OK, "13.1: no value")
	mustGet(t, d, 1, "n", "", "13.1: no value")
}
