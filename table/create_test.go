package table

import (
	"fmt"
	"math"
	"slices"
	"testing"

	"headland/api"
	"headland/draft"
)

// calls is each call on a draft and a table's name, taken where there is such a table as little and a row 1.
func calls(d *draft.Draft, name string) map[string]func() (told int, e api.Errno) {
	return map[string]func() (int, api.Errno){
		"Schema": func() (int, api.Errno) {
			s, e := Schema(d, name)
			return len(s.Name) + len(s.Columns) + len(s.Indexes), e
		},
		"Insert":               func() (int, api.Errno) { return 0, Insert(d, name, values{num(99), word("zz")}) },
		"Insert, refused":      func() (int, api.Errno) { return 0, Insert(d, name, values{{N: 1}}) },
		"Insert of none":       func() (int, api.Errno) { return 0, Insert(d, name, nil) },
		"Update":               func() (int, api.Errno) { return 0, Update(d, name, values{num(1), word("zz")}) },
		"Update, refused":      func() (int, api.Errno) { return 0, Update(d, name, nil) },
		"Delete":               func() (int, api.Errno) { return 0, Delete(d, name, num(1)) },
		"Delete, refused":      func() (int, api.Errno) { return 0, Delete(d, name, word("\xFF")) },
		"Get":                  func() (int, api.Errno) { l, e := Get(d, name, num(1)); return len(l), e },
		"Get, refused":         func() (int, api.Errno) { l, e := Get(d, name, api.Value{Kind: 9}); return len(l), e },
		"Scan":                 func() (int, api.Errno) { l, e := Scan(d, name, 0, none(), none(), 4); return len(l), e },
		"Scan, refused column": func() (int, api.Errno) { l, e := Scan(d, name, 7, none(), none(), 4); return len(l), e },
		"Scan, refused bound":  func() (int, api.Errno) { l, e := Scan(d, name, 0, none(), word("\xFF"), 4); return len(l), e },
		"Scan, refused limit":  func() (int, api.Errno) { l, e := Scan(d, name, 0, none(), none(), 0); return len(l), e },
		"Len":                  func() (int, api.Errno) { return Len(d, name) },
	}
}

func TestNoDraft(t *testing.T) {
	for _, name := range append(noNames(), "t") {
		for what, call := range calls(nil, name) {
			if told, e := call(); told != 0 || e != api.ErrArg {
				t.Errorf("15: %s of a nil draft: %d told, error %d", what, told, e)
			}
		}
	}
	for _, s := range []api.Schema{little(), {}, {Name: "T"}} {
		if e := Create(nil, s); e != api.ErrArg {
			t.Errorf("15: Create of a nil draft: error %d", e)
		}
	}
	if l, e := Names(nil); len(l) > 0 || e != api.ErrArg {
		t.Errorf("15: Names of a nil draft: %v, error %d", l, e)
	}
}

func TestNoTable(t *testing.T) {
	empty, some := newDraft(t), newDraft(t, little(), mixed(), greatest())
	mustInsert(t, some, "t", values{num(1), word("a")})
	for _, d := range []*draft.Draft{empty, some} {
		for _, name := range noNames() {
			for what, call := range calls(d, name) {
				mustRefuse(t, d, api.ErrTable, what+" of "+fmt.Sprintf("%.20q", name), func() api.Errno {
					told, e := call()
					if told != 0 {
						t.Errorf("rule 4: %s told something beside error %d", what, e)
					}
					return e
				})
			}
		}
	}
	if l, e := Names(empty); len(l) > 0 || e != api.OK {
		t.Errorf("15.1: Names of none: %v, error %d", l, e)
	}
	for what, call := range calls(empty, "t") {
		if _, e := call(); e != api.ErrTable {
			t.Errorf("15: %s ahead of Create: error %d", what, e)
		}
	}
}

func alike(a, b api.Schema) bool {
	return a.Name == b.Name && slices.Equal(a.Columns, b.Columns) && slices.Equal(a.Indexes, b.Indexes)
}

func TestCreate(t *testing.T) {
	d := newDraft(t)
	for i, s := range []api.Schema{mixed(), little(), greatest(), bare()} {
		mustTell(t, Create(d, s), api.OK, "15.1: Create")
		if got, e := Schema(d, s.Name); e != api.OK || !alike(got, s) {
			t.Errorf("15.1: Schema %d: %v, error %d", i, got, e)
		}
		mustCount(t, d, s.Name, 0)
		if rows := allRows(t, d, s.Name); len(rows) > 0 {
			t.Errorf("15.1: a table has rows ahead of the first Insert: %s", spelled(rows))
		}
		mustNotCreate(t, d, s, api.ErrTable, "once more")
	}
	mustName(t, d, "bare", "mixed", "t", "zzzzzzzz")
	mustNotCreate(t, d, sharing(), api.ErrMany, "the fifth one")
	mustName(t, d, "bare", "mixed", "t", "zzzzzzzz")
	if _, e := Schema(d, "sharing"); e != api.ErrTable {
		t.Errorf("15.1: Schema of the fifth one: error %d", e)
	}
}

// wrongSchemas are not Right.
func wrongSchemas() []api.Schema {
	wrong := func(turn func(s *api.Schema)) api.Schema { s := little(); turn(&s); return s }
	return []api.Schema{
		{}, {Name: "t"}, named(""), named("T"), named("abcdefghi"), named("\xFF"),
		wrong(func(s *api.Schema) { s.Columns = nil }),
		wrong(func(s *api.Schema) { s.Columns[1].Name = "k" }),
		wrong(func(s *api.Schema) { s.Columns[1].Max = 9 }),
		wrong(func(s *api.Schema) { s.Columns[0].Max = 1 }),
		wrong(func(s *api.Schema) { s.Columns[0].Kind = api.Nothing }),
		wrong(func(s *api.Schema) { s.Columns = append(s.Columns, boolColumn("x"), boolColumn("y")) }),
		wrong(func(s *api.Schema) { s.Indexes[0].Column = 0 }),
		wrong(func(s *api.Schema) { s.Indexes[0].Column = 2 }),
		wrong(func(s *api.Schema) { s.Indexes[0].Column = math.MinInt }),
		wrong(func(s *api.Schema) { s.Indexes = append(s.Indexes, s.Indexes...) }),
	}
}

// TestWhichRefusalOfCreateComesFirst: a schema that is not Right, a name that is taken, four tables.
func TestWhichRefusalOfCreateComesFirst(t *testing.T) {
	for _, d := range []*draft.Draft{newDraft(t), newDraft(t, little()), newDraft(t, little(), named("a"), named("b"), named("c"))} {
		for _, s := range wrongSchemas() {
			mustNotCreate(t, d, s, api.ErrSchema, fmt.Sprint("of ", s))
		}
	}
	four := newDraft(t, little(), named("a"), named("b"), named("c"))
	other := mixed()
	other.Name = "b"
	mustNotCreate(t, four, other, api.ErrTable, "of a name that is taken, with another schema, where there are four")
	mustNotCreate(t, four, named("d"), api.ErrMany, "of a name that is free, where there are four")
	if got, e := Schema(four, "b"); e != api.OK || !alike(got, named("b")) {
		t.Errorf("15.1: Schema behind a refused Create: %v, error %d", got, e)
	}
	// A table whose Create is taken back makes room for another one.
	mark := four.Mark()
	mustTell(t, four.Back(mark-1), api.OK, "13.2: Back")
	mustTell(t, Create(four, named("d")), api.OK, "15.1: Create behind a Back")
	mustName(t, four, "a", "b", "d", "t")
	mustNotCreate(t, four, named("c"), api.ErrMany, "of what was taken back")
}

// orders are all orders of some numbers below n.
func orders(n int) [][]int {
	if n == 0 {
		return [][]int{nil}
	}
	var all [][]int
	for _, l := range orders(n - 1) {
		for at := range n {
			all = append(all, slices.Insert(slices.Clone(l), at, n-1))
		}
	}
	return all
}

func TestNamesAreInOrder(t *testing.T) {
	l := []string{"a", "aa", "ab", "b"}
	for _, order := range orders(len(l)) {
		d := newDraft(t)
		for i, at := range order {
			mustTell(t, Create(d, named(l[at])), api.OK, "15.1: Create")
			mustInsert(t, d, l[at], values{num(at), word(l[at])})
			var want []string
			for _, n := range slices.Sorted(slices.Values(order[:i+1])) {
				want = append(want, l[n])
			}
			mustName(t, d, want...)
		}
		for at, name := range l {
			if got, want := spelled(allRows(t, d, name)), spelledRow(values{num(at), word(name)}); got != want {
				t.Errorf("15.1: laid down in the order %v: %s has %s, not %s", order, name, got, want)
			}
		}
	}
}

// TestTablesKnowNothingOfOneAnother: what is done to one turns no other one.
func TestTablesKnowNothingOfOneAnother(t *testing.T) {
	l := []string{"b", "a", "d", "c"}
	told := func(d *draft.Draft, but string) string {
		s := ""
		for _, name := range l {
			if name != but {
				n, e := Len(d, name)
				s += fmt.Sprint(name, n, e, spelled(allRows(t, d, name)), scanned(d, name, 1, none()), scanned(d, name, 1, word("b")))
			}
		}
		return s
	}
	d := newDraft(t, named(l[0]), named(l[1]), named(l[2]), named(l[3]))
	for _, name := range l {
		was := told(d, name)
		mustInsert(t, d, name, values{num(1), word("a")}, values{num(2), none()}, values{num(3), word("b")})
		mustTell(t, Update(d, name, values{num(2), word("c")}), api.OK, "15.2: Update")
		mustTell(t, Delete(d, name, num(3)), api.OK, "15.2: Delete")
		mustNotInsert(t, d, name, values{num(4), word("c")}, api.ErrUnique, "into "+name)
		if told(d, name) != was {
			t.Fatalf("15.4: what was done to %s turned another one: %s, was %s", name, told(d, name), was)
		}
		mustScan(t, d, name, 1, none(), none(), 4, `(1 "a") (2 "c")`)
	}
	for i := range api.MaxRows {
		Insert(d, "a", values{num(i), none()})
	}
	mustCount(t, d, "a", api.MaxRows)
	mustInsert(t, d, "b", values{num(7), none()})
	mustInsert(t, d, "d", values{num(7), none()})
	mustCount(t, d, "b", 3)
	mustTell(t, Delete(d, "b", num(1)), api.OK, "15.2: Delete")
	mustGet(t, d, "d", values{num(1), word("a")})
	mustCount(t, d, "a", api.MaxRows)
}
