package table

import (
	"fmt"
	"slices"
	"strings"
	"testing"

	"headland/api"
	"headland/draft"
)

func TestTheChaptersExample(t *testing.T) {
	d := newDraft(t, little())
	mustInsert(t, d, "t", values{num(1), word("a")})
	mustNotInsert(t, d, "t", values{num(2), word("a")}, api.ErrUnique, "the example's")
	mustNotInsert(t, d, "t", values{num(1), word("b")}, api.ErrKey, "the example's")
	mustInsert(t, d, "t", values{num(2), none()}, values{num(3), none()})
	mustScan(t, d, "t", 1, none(), none(), 4, `(2 -) (3 -) (1 "a")`)
	mustTell(t, Update(d, "t", values{num(2), word("b")}), api.OK, "15.2: Update")
	mustTell(t, Delete(d, "t", num(3)), api.OK, "15.2: Delete")
	mustScan(t, d, "t", 1, word("a"), word("b"), 4, `(1 "a")`)
}

// unfit are rows that do not fit the table little.
func unfit() map[string]values {
	l := map[string]values{
		"none":                  nil,
		"one value":             {num(1)},
		"three values":          {num(9), word("x"), none()},
		"a first value Nothing": {none(), word("x")},
		"a first value Text":    {word("a"), word("x")},
		"a first value Bool":    {truth(1), word("x")},
		"a second value Int":    {num(9), num(1)},
		"a second value Bool":   {num(9), truth(1)},
		"four runes":            {num(9), word("abcd")},
		"four runes, not ASCII": {num(9), word("äöüß")},
		"a thousand runes":      {num(9), word(strings.Repeat("x", 1000))},
	}
	for i, v := range wrongValues() {
		l[fmt.Sprint("a wrong first value ", i)] = values{v, word("x")}
		l[fmt.Sprint("a wrong second value ", i)] = values{num(9), v}
	}
	return l
}

// TestWhatDoesNotFit: a row is asked whether it fits ahead of all else.
func TestWhatDoesNotFit(t *testing.T) {
	empty, full := newDraft(t, little()), newDraft(t, little())
	for i := range api.MaxRows {
		mustInsert(t, full, "t", values{num(i), none()})
	}
	for _, d := range []*draft.Draft{empty, full} {
		was := whole(t, d)
		for why, l := range unfit() {
			mustNotInsert(t, d, "t", l, api.ErrRow, why)
			mustNotUpdate(t, d, "t", l, api.ErrRow, why)
		}
		if whole(t, d) != was {
			t.Fatalf("15.2: rows that do not fit turned something: %s, was %s", whole(t, d), was)
		}
	}
	for _, s := range []string{"", "a", "äöü", "€€€", "𐐀𐐀𐐀", "\x00\x00\x00", "\uFFFD"} {
		mustInsert(t, empty, "t", values{num(len(s)), word(s)})
		mustGet(t, empty, "t", values{num(len(s)), word(s)})
		mustTell(t, Delete(empty, "t", num(len(s))), api.OK, "15.2: Delete")
	}
}

func TestInsertOfAFirstValueThatIsTaken(t *testing.T) {
	d := newDraft(t, little())
	mustInsert(t, d, "t", values{num(1), word("a")}, values{num(2), none()}, values{num(0), word("")}, values{num(-1), word("z")})
	was := whole(t, d)
	for _, l := range allRows(t, d, "t") {
		for _, v := range (values{none(), word("a"), word("b"), l[1]}) {
			mustNotInsert(t, d, "t", values{l[0], v}, api.ErrKey, "of "+spelledRow(l)+" again")
		}
	}
	if whole(t, d) != was {
		t.Errorf("15.2: a row is turned by an Insert: %s, was %s", whole(t, d), was)
	}
}

func TestManyRows(t *testing.T) {
	for _, s := range []api.Schema{little(), bare(), sharing()} {
		d := newDraft(t, s)
		some := func(n int) values { return append(values{num(n)}, make(values, len(s.Columns)-1)...) }
		for i := range api.MaxRows {
			mustCount(t, d, s.Name, i)
			mustInsert(t, d, s.Name, some(i*7%api.MaxRows))
		}
		mustCount(t, d, s.Name, api.MaxRows)
		mustNotInsert(t, d, s.Name, some(99), api.ErrMany, "the 65th row")
		mustNotInsert(t, d, s.Name, some(-1), api.ErrMany, "the 65th row")
		mustNotInsert(t, d, s.Name, some(5), api.ErrKey, "of a first value that is taken, where there are 64 rows")
		mustTell(t, Update(d, s.Name, some(5)), api.OK, "15.2: Update where there are 64 rows")
		mustTell(t, Delete(d, s.Name, num(5)), api.OK, "15.2: Delete")
		mustCount(t, d, s.Name, api.MaxRows-1)
		mustInsert(t, d, s.Name, some(99))
		mustNotInsert(t, d, s.Name, some(5), api.ErrMany, "the 65th row behind a Delete")
		mustCount(t, d, s.Name, api.MaxRows)
		for i, l := range allRows(t, d, s.Name) {
			want := i
			if i >= 5 {
				want = i + 1
			}
			if i == api.MaxRows-1 {
				want = 99
			}
			if l[0] != num(want) {
				t.Fatalf("15.2: the row %d is %s", i, spelledRow(l))
			}
		}
	}
}

// TestWhichRefusalOfInsertComesFirst: ErrRow, ErrKey, ErrMany, ErrUnique.
func TestWhichRefusalOfInsertComesFirst(t *testing.T) {
	d := newDraft(t, little())
	for i := range api.MaxRows - 1 {
		mustInsert(t, d, "t", values{num(i), none()})
	}
	mustTell(t, Update(d, "t", values{num(3), word("a")}), api.OK, "15.2: Update")
	mustNotInsert(t, d, "t", values{num(99), word("a")}, api.ErrUnique, "unique alone")
	mustNotInsert(t, d, "t", values{num(5), word("a")}, api.ErrKey, "key ahead of unique")
	mustInsert(t, d, "t", values{num(99), none()})
	mustNotInsert(t, d, "t", values{num(98), word("a")}, api.ErrMany, "many ahead of unique")
	mustNotInsert(t, d, "t", values{num(5), word("a")}, api.ErrKey, "key ahead of many and unique")
	mustNotInsert(t, d, "t", values{num(5), word("aaaa")}, api.ErrRow, "row ahead of key and many")
	mustNotInsert(t, d, "u", values{num(5), word("aaaa")}, api.ErrTable, "table ahead of row")
}

func TestWhatMustBeOneOfAKind(t *testing.T) {
	d := newDraft(t, mixed())
	row := func(k string, a, b api.Value) values { return values{word(k), a, b} }
	mustInsert(t, d, "mixed", row("a", num(1), truth(0)), row("b", num(2), truth(0)), row("c", none(), truth(0)), row("d", none(), none()), row("", num(-1), none()))
	for _, n := range []int{1, 2, -1} {
		mustNotInsert(t, d, "mixed", row("x", num(n), none()), api.ErrUnique, "a value that another row has")
		mustNotInsert(t, d, "mixed", row("x", num(n), truth(1)), api.ErrUnique, "a value that another row has")
		mustNotUpdate(t, d, "mixed", row("c", num(n), truth(0)), api.ErrUnique, "from Nothing to a value that another row has")
	}
	mustNotUpdate(t, d, "mixed", row("a", num(2), truth(0)), api.ErrUnique, "a value that a later row has")
	mustNotUpdate(t, d, "mixed", row("b", num(1), truth(0)), api.ErrUnique, "a value that an earlier row has")
	mustInsert(t, d, "mixed", row("e", num(0), truth(0)), row("f", num(256), truth(0)), row("g", none(), none()))
	// What a row lets go, another one may have.
	mustTell(t, Update(d, "mixed", row("a", none(), truth(0))), api.OK, "15.2: Update to Nothing")
	mustTell(t, Update(d, "mixed", row("c", num(1), truth(1))), api.OK, "15.2: Update from Nothing")
	mustTell(t, Delete(d, "mixed", word("b")), api.OK, "15.2: Delete")
	mustInsert(t, d, "mixed", row("x", num(2), truth(1)))
	mustNotUpdate(t, d, "mixed", row("a", num(2), none()), api.ErrUnique, "what another row took since")
	mustScan(t, d, "mixed", 1, none(), none(), 4, `("a" - false) ("d" - -) ("g" - -) ("" -1 -)`)
	mustScan(t, d, "mixed", 1, num(1), none(), 4, `("c" 1 true) ("x" 2 true) ("f" 256 false)`)
	mustScan(t, d, "mixed", 2, truth(1), none(), 4, `("c" 1 true) ("x" 2 true)`)
}

// TestTwoUniqueIndexes: each is asked, and each asks its own column alone.
func TestTwoUniqueIndexes(t *testing.T) {
	long := func(c string) api.Value { return word(strings.Repeat(c, 8)) }
	d := newDraft(t, greatest())
	mustInsert(t, d, "zzzzzzzz", values{long("a"), long("b"), long("c")}, values{long("\U0010FFFF"), long("\U0010FFFE"), long("\U0010FFFF")})
	mustInsert(t, d, "zzzzzzzz", values{long("b"), long("c"), long("a")})
	for _, l := range []values{{long("x"), long("b"), long("y")}, {long("x"), long("y"), long("c")}, {long("x"), long("\U0010FFFE"), none()}, {long("x"), none(), long("\U0010FFFF")}, {long("x"), long("b"), long("c")}} {
		mustNotInsert(t, d, "zzzzzzzz", l, api.ErrUnique, spelledRow(l))
		l[0] = long("\U0010FFFF")
		if l[1] != long("\U0010FFFE") && l[2] != long("\U0010FFFF") {
			mustNotUpdate(t, d, "zzzzzzzz", l, api.ErrUnique, spelledRow(l))
		}
	}
	mustTell(t, Update(d, "zzzzzzzz", values{long("a"), long("\U0010FFFF"), long("\U0010FFFE")}), api.OK, "15.2: Update")
	mustScan(t, d, "zzzzzzzz", 1, long("\U0010FFFE"), none(), 4, spelled([]values{{long("\U0010FFFF"), long("\U0010FFFE"), long("\U0010FFFF")}, {long("a"), long("\U0010FFFF"), long("\U0010FFFE")}}))
	mustNotInsert(t, d, "zzzzzzzz", values{long("x"), long("\U0010FFFF"), none()}, api.ErrUnique, "the greatest text")
	mustInsert(t, d, "zzzzzzzz", values{long("x"), word(strings.Repeat("\U0010FFFF", 7)), long("b")})
}

func TestUpdate(t *testing.T) {
	d := newDraft(t, little(), sharing())
	for _, l := range []values{{num(1), word("a")}, {num(1), none()}, {num(0), word("a")}} {
		mustNotUpdate(t, d, "t", l, api.ErrNone, "where there is no row")
	}
	mustInsert(t, d, "t", values{num(1), word("a")}, values{num(2), none()}, values{num(3), word("c")})
	mustNotUpdate(t, d, "t", values{num(4), word("x")}, api.ErrNone, "of a row that is not there")
	mustNotUpdate(t, d, "t", values{num(4), word("a")}, api.ErrNone, "of a row that is not there, to a value that another row has")
	mustNotUpdate(t, d, "t", values{num(4), word("long")}, api.ErrRow, "of a row that is not there, and that does not fit")
	mustNotUpdate(t, d, "t", values{num(2), word("a")}, api.ErrUnique, "to a value that another row has")
	for _, l := range []values{{num(1), word("a")}, {num(1), word("b")}, {num(1), word("a")}, {num(1), none()}, {num(1), none()}, {num(1), word("a")}, {num(2), word("b")}, {num(2), word("")}, {num(2), none()}} {
		mustTell(t, Update(d, "t", l), api.OK, "15.2: Update to "+spelledRow(l))
		mustGet(t, d, "t", l)
		mustCount(t, d, "t", 3)
	}
	mustScan(t, d, "t", 0, none(), none(), 4, `(1 "a") (2 -) (3 "c")`)
	mustScan(t, d, "t", 1, none(), none(), 4, `(2 -) (1 "a") (3 "c")`)
	mustInsert(t, d, "sharing", values{num(1), num(1), num(7)}, values{num(2), num(1), num(7)})
	for _, l := range []values{{num(1), num(2), num(7)}, {num(2), none(), num(7)}, {num(1), num(1), num(8)}, {num(2), num(1), none()}, {num(2), num(1), num(8)}} {
		mustTell(t, Update(d, "sharing", l), api.OK, "15.2: Update to "+spelledRow(l))
		mustGet(t, d, "sharing", l)
	}
	mustScan(t, d, "sharing", 2, none(), none(), 4, "(1 1 8) (2 1 8)")
}

func TestDeleteAndGet(t *testing.T) {
	d := newDraft(t, little(), mixed())
	mustInsert(t, d, "t", values{num(1), word("a")}, values{num(0), none()}, values{num(-1), word("b")})
	mustInsert(t, d, "mixed", values{word("1"), num(1), truth(1)}, values{word(""), none(), none()})
	was := whole(t, d)
	for _, name := range []string{"t", "mixed"} {
		for _, v := range wrongValues() {
			mustNotFind(t, d, name, v, api.ErrRow, fmt.Sprintf("of %+v, which is not Right", v))
		}
		for _, v := range (values{none(), truth(0), truth(1), num(2), num(256), num(1 << 62), word("a"), word("11"), word("a text that is too long for a key"), word(strings.Repeat("\x00", 18)), word(strings.Repeat("\x00", 19)), word(strings.Repeat("1", 100000))}) {
			mustNotFind(t, d, name, v, api.ErrNone, "of what no row has")
		}
	}
	for _, v := range (values{word("1"), word(""), word("\x00")}) {
		mustNotFind(t, d, "t", v, api.ErrNone, "of another Kind")
	}
	for _, v := range (values{num(1), num(0), truth(1)}) {
		mustNotFind(t, d, "mixed", v, api.ErrNone, "of another Kind")
	}
	if whole(t, d) != was {
		t.Errorf("15.2: a refused Delete turned something: %s, was %s", whole(t, d), was)
	}
	mustGet(t, d, "mixed", values{word(""), none(), none()})
	for _, n := range []int{0, 1, -1} {
		mustTell(t, Delete(d, "t", num(n)), api.OK, "15.2: Delete")
		mustNotFind(t, d, "t", num(n), api.ErrNone, "of what is gone")
		mustNotUpdate(t, d, "t", values{num(n), none()}, api.ErrNone, "of what is gone")
	}
	mustCount(t, d, "t", 0)
	mustCount(t, d, "mixed", 2)
	mustInsert(t, d, "t", values{num(1), word("b")})
	mustScan(t, d, "t", 1, none(), none(), 4, `(1 "b")`)
}

// TestBackAgain: Insert, then Delete, is nothing, and so is an Update back.
func TestBackAgain(t *testing.T) {
	s, _ := newStore(t)
	d := over(t, s)
	for _, schema := range []api.Schema{mixed(), sharing()} {
		mustTell(t, Create(d, schema), api.OK, "15.1: Create")
	}
	mustInsert(t, d, "mixed", values{word("b"), num(1), truth(1)}, values{word("d"), none(), truth(1)}, values{word("f"), num(2), none()})
	mustInsert(t, d, "sharing", values{num(1), num(1), num(7)}, values{num(2), num(1), num(7)})
	mustTell(t, s.Apply(1, d.Changes()), api.OK, "6.3: Apply")
	was, had := whole(t, d), exported(t, s)
	for _, l := range []values{{word("a"), num(5), truth(1)}, {word("c"), none(), none()}, {word("e"), num(0), truth(0)}, {word("g"), none(), truth(1)}} {
		d := over(t, s)
		mustInsert(t, d, "mixed", l)
		mustTell(t, Delete(d, "mixed", l[0]), api.OK, "15.2: Delete")
		mustBeAsItWas(t, d, was, "Insert and Delete of "+spelledRow(l))
		mustTell(t, s.Apply(1, d.Changes()), api.OK, "6.3: Apply")
	}
	for _, l := range []values{{word("b"), none(), none()}, {word("b"), num(1), truth(0)}, {word("d"), num(5), truth(1)}, {word("f"), num(3), truth(1)}, {word("f"), num(2), none()}} {
		d := over(t, s)
		old, e := Get(d, "mixed", l[0])
		mustTell(t, e, api.OK, "15.2: Get")
		mustTell(t, Update(d, "mixed", l), api.OK, "15.2: Update")
		mustGet(t, d, "mixed", l)
		mustTell(t, Update(d, "mixed", old), api.OK, "15.2: Update back")
		mustBeAsItWas(t, d, was, "Update to "+spelledRow(l)+" and back")
		mustTell(t, Delete(d, "mixed", l[0]), api.OK, "15.2: Delete")
		mustInsert(t, d, "mixed", old)
		mustBeAsItWas(t, d, was, "Delete and Insert of "+spelledRow(l))
		mustTell(t, s.Apply(1, d.Changes()), api.OK, "6.3: Apply")
	}
	if exported(t, s) != had {
		t.Errorf("15.4: what is nothing left something in the store: %s, was %s", exported(t, s), had)
	}
}

func mustBeAsItWas(t *testing.T, d *draft.Draft, was, why string) {
	t.Helper()
	if got := whole(t, d); got != was {
		t.Fatalf("15.4: %s is not nothing: %s, was %s", why, got, was)
	}
}

// TestNamesOfColumnsDoNotMatter: an index is over a column by its place.
func TestNamesOfColumnsDoNotMatter(t *testing.T) {
	s := sharing()
	slices.Reverse(s.Columns)
	d := newDraft(t, s)
	mustInsert(t, d, "sharing", values{num(1), num(9), num(2)}, values{num(2), num(8), num(1)})
	mustScan(t, d, "sharing", 2, none(), none(), 4, "(2 8 1) (1 9 2)")
}
