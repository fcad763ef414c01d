package txn

import (
	"fmt"
	"math"
	"slices"
	"testing"

	"headland/api"
	"headland/draft"
	"headland/table"
)

func TestTheExampleOfTheChapter(t *testing.T) {
	d := newDraft(t, create(little("t")))
	mustReply(t, d, ops{insert("t", num(1), word("a")), ask("t", num(2))}, 1, api.Reply{Err: api.ErrNone, At: 1}, "the example")
	if n, e := table.Len(d, "t"); n != 0 || e != api.OK {
		t.Errorf("16.4: the example leaves %d rows, error %d", n, e)
	}
}

func TestWhatMayNotBeRun(t *testing.T) {
	d, _, _ := filled(t)
	versions := []int{0, 3, 4, -1, -2, 1 + 1<<8, 2 + 1<<32, math.MinInt, math.MaxInt}
	lay := insert("t", num(99), word("z"))
	for _, x := range []*draft.Draft{d, nil} {
		for _, version := range append(versions, 1, 2) {
			was := whole(t, d)
			for _, l := range []ops{nil, {lay}, {lay, all("t")}, {ask("t", num(99))}, slices.Repeat(ops{all("t")}, 4)} {
				if x != nil && (version == 1 || version == 2) && len(l) < 4 {
					continue
				}
				if r, e := Run(x, l, version); e != api.ErrArg || spelled(r) != spelled(api.Reply{}) {
					t.Errorf("16.2: Run of %v with the version %d, nil draft %v: %s, error %d", l, version, x == nil, spelled(r), e)
				}
			}
			for _, o := range wrongOps() {
				for _, l := range []ops{{o}, {lay, o}, {o, lay}, {ask("t", num(99)), o}, {lay, all("t"), o}} {
					if r, e := Run(x, l, version); e != api.ErrArg || spelled(r) != spelled(api.Reply{}) {
						t.Errorf("16.2: Run of %v with the version %d, nil draft %v: %s, error %d", l, version, x == nil, spelled(r), e)
					}
				}
			}
			if whole(t, d) != was {
				t.Fatalf("rule 4: Run with the version %d is refused, but the draft is changed", version)
			}
		}
	}
}

func TestRunsThatAreTaken(t *testing.T) {
	for version := 1; version <= 2; version++ {
		d, _, _ := filled(t)
		told := func(l ...values) api.Reply { return api.Reply{Rows: l} }
		one, two, three, four := values{num(1), word("a")}, values{num(2), word("b")}, values{num(3), word("c")}, values{num(4), word("D")}
		must := func(want api.Reply, l ...api.Op) {
			t.Helper()
			mustReply(t, d, l, version, want, fmt.Sprint("Run with the version ", version, " of ", l))
		}
		must(told())
		must(told(one), ask("t", num(1)))
		must(told(one, two, three, four), all("t"))
		must(told(two, one, two, three, four), ask("t", num(2)), ask("t", num(1)), scan("t", 0, num(2), none(), 3))
		must(told(three, three, one), scan("t", 1, word("c"), word("d"), 4), ask("t", num(3)), ask("t", num(1)))
		must(told(), scan("t", 0, num(99), none(), 4))
		must(told(one), scan("t", 0, num(99), none(), 4), ask("t", num(1)), scan("t", 0, num(1), num(1), 4))
		must(told(one, two, three, four, one, two, three, four, one, two, three, four), all("t"), all("t"), all("t"))
		must(told(), insert("t", num(0), none()), remove("t", num(3)), update("t", num(4), word("x")))
		must(told(values{num(0), none()}, one, two, values{num(4), word("x")}), all("t"))
		must(told(values{num(0), none()}, values{num(4), word("y")}), ask("t", num(0)), update("t", num(4), word("y")), ask("t", num(4)))
	}
}

// TestEachSeesWhatTheEarlierOnesDid, and is refused by it.
func TestEachSeesWhatTheEarlierOnesDid(t *testing.T) {
	for version := 1; version <= 2; version++ {
		d, _, _ := filled(t)
		must := func(want api.Reply, l ...api.Op) {
			t.Helper()
			mustReply(t, d, l, version, want, fmt.Sprint("Run with the version ", version, " of ", l))
		}
		refused := func(e api.Errno, at int) api.Reply { return api.Reply{Err: e, At: at} }
		q := values{num(50), word("q")}
		must(refused(api.ErrTable, 0), insert("u", q...), create(little("u")))
		must(refused(api.ErrTable, 1), create(little("u")), create(little("u")))
		must(refused(api.ErrMany, 2), create(little("u")), create(little("v")), create(little("w")))
		must(refused(api.ErrKey, 1), insert("t", q...), insert("t", num(50), word("r")))
		must(refused(api.ErrUnique, 1), insert("t", q...), insert("t", num(51), word("q")))
		must(refused(api.ErrUnique, 2), insert("t", q...), ask("t", num(50)), update("t", num(1), word("q")))
		must(refused(api.ErrNone, 1), remove("t", num(1)), ask("t", num(1)))
		must(refused(api.ErrNone, 2), insert("t", q...), remove("t", num(50)), update("t", q...))
		must(api.Reply{Rows: rows{q}}, create(little("u")), insert("u", q...), ask("u", num(50)))
		must(api.Reply{Rows: rows{q}}, insert("t", q...), remove("t", num(1)), scan("t", 1, word("q"), none(), 4))
		must(api.Reply{}, remove("t", num(50)), insert("t", num(51), word("q")), insert("t", num(50), word("a")))
	}
}

// crowded has four tables: t and texts of filled, full of 64 rows, u of none.
func crowded(t *testing.T) *draft.Draft {
	t.Helper()
	d, _, _ := filled(t)
	mustDo(t, d, create(little("full")), create(little("u")))
	for i := range 64 {
		mustDo(t, d, insert("full", num(i), none()))
	}
	return d
}

type refusal struct {
	o api.Op
	e api.Errno
}

// refusals are operations that the tables of crowded refuse, by each error that tables tell, folded or not.
func refusals() []refusal {
	l := []refusal{
		{create(little("t")), api.ErrTable}, {create(little("v")), api.ErrMany},
		{insert("t", num(1), word("zz")), api.ErrKey}, {insert("full", num(64), none()), api.ErrMany}, {insert("t", num(99), word("a")), api.ErrUnique},
		{update("t", num(1), word("c")), api.ErrUnique}, {update("t", num(99), none()), api.ErrNone}, {update("u", num(1), none()), api.ErrNone},
		{remove("t", num(99)), api.ErrNone}, {remove("t", word("a")), api.ErrNone}, {ask("t", num(99)), api.ErrNone}, {ask("t", none()), api.ErrNone}, {ask("texts", word("zz")), api.ErrNone},
		{scan("t", 2, none(), none(), 4), api.ErrColumn}, {scan("texts", 1, none(), none(), 1), api.ErrColumn},
		{insert("v", num(1), none()), api.ErrTable}, {update("v", num(1), none()), api.ErrTable}, {remove("v", num(1)), api.ErrTable}, {ask("v", num(1)), api.ErrTable}, {all("v"), api.ErrTable}, {scan("v", 2, none(), none(), 4), api.ErrTable},
	}
	for _, row := range []values{nil, {num(1)}, {num(1), none(), none()}, {word("a"), word("a")}, {none(), none()}, {num(1), truth(1)}, {num(1), word("abcd")}} {
		l = append(l, refusal{insert("t", row...), api.ErrRow}, refusal{update("t", row...), api.ErrRow})
	}
	return l
}

func TestRefusedAtEachPlace(t *testing.T) {
	d, met := crowded(t), map[api.Errno]int{}
	lay, turn := insert("u", num(7), word("z")), update("t", num(2), word("zz"))
	for _, x := range refusals() {
		met[x.e]++
		for at, lists := range [][]ops{{{x.o}, {x.o, lay}, {x.o, all("t"), turn}}, {{lay, x.o}, {remove("t", num(4)), x.o, lay}, {all("t"), x.o, turn}}, {{lay, turn, x.o}, {turn, all("t"), x.o}, {ask("t", num(2)), all("texts"), x.o}}} {
			for _, l := range lists {
				for version := 1; version <= 2; version++ {
					mustReply(t, d, l, version, api.Reply{Err: x.e, At: at}, fmt.Sprint("Run with the version ", version, " of ", l))
				}
			}
		}
	}
	for _, e := range []api.Errno{api.ErrMany, api.ErrNone, api.ErrTable, api.ErrRow, api.ErrKey, api.ErrUnique, api.ErrColumn} {
		if met[e] == 0 {
			t.Errorf("16.2: nothing is refused by %d", e)
		}
	}
}

// TestWhichRefusalComesFirst: the first operation that is refused is told, whatever the later ones are.
func TestWhichRefusalComesFirst(t *testing.T) {
	d := crowded(t)
	for _, x := range refusals() {
		for _, y := range refusals() {
			was := changed(d)
			for at, l := range []ops{{x.o, y.o}, {insert("u", num(7), none()), x.o, y.o}} {
				if r, e := Run(d, l, 1); e != api.OK || spelled(r) != spelled(api.Reply{Err: x.e, At: at}) {
					t.Fatalf("16.2: Run of %v: %s, error %d, not refused by %d at %d", l, spelled(r), e, x.e, at)
				}
			}
			if changed(d) != was {
				t.Fatalf("16.4: Run of %v and %v is refused, but the draft is changed", x.o, y.o)
			}
		}
	}
}

// TestMostRows: a table is filled up by one Run, or not at all.
func TestMostRows(t *testing.T) {
	d := newDraft(t, create(little("t")))
	for i := range 62 {
		mustDo(t, d, insert("t", num(i), none()))
	}
	more := func(count int) ops {
		var l ops
		for i := range count {
			l = append(l, insert("t", num(62+i), none()))
		}
		return l
	}
	mustReply(t, d, more(3), 1, api.Reply{Err: api.ErrMany, At: 2}, "Run of one row too many")
	mustReply(t, d, more(2), 1, api.Reply{}, "Run up to 64 rows")
	mustReply(t, d, ops{remove("t", num(0)), insert("t", num(-1), none()), insert("t", num(0), none())}, 1, api.Reply{Err: api.ErrMany, At: 2}, "Run of one row too many")
}
