package table

import (
	"slices"
	"testing"

	"headland/api"
)

// roomy is a list with spare room behind it that is filled, so that a write into it shows.
func roomy[T any](l []T, spare ...T) []T {
	full := slices.Clip(append(slices.Clone(l), spare...))
	return full[:len(l)]
}

func room[T any](l []T) []T { return slices.Clone(l[:cap(l)]) }

// spoil lays another one over all of a list, and over its spare room.
func spoil[T any](l []T, with T) {
	l = l[:cap(l)]
	for i := range l {
		l[i] = with
	}
}

func roomyRow(l ...api.Value) values { return roomy(l, word("SPARE"), num(77), truth(1)) }

func roomySchema(s api.Schema) api.Schema {
	s.Columns = roomy(s.Columns, intColumn("spare"), api.Column{Name: "X", Kind: 9, Max: 9})
	s.Indexes = roomy(s.Indexes, api.Index{Column: 2}, api.Index{Column: 9, Unique: true})
	return s
}

func spoilSchema(s api.Schema) {
	spoil(s.Columns, textColumn("spoilt", 8))
	spoil(s.Indexes, api.Index{Column: 2, Unique: true})
}

// TestWhatIsHandedIn is not changed, and not kept.
func TestWhatIsHandedIn(t *testing.T) {
	d := newDraft(t)
	for _, own := range []api.Schema{mixed(), sharing(), {Name: "t"}} {
		s := roomySchema(own)
		columnsWere, indexesWere := room(s.Columns), room(s.Indexes)
		Create(d, s)
		if !slices.Equal(room(s.Columns), columnsWere) || !slices.Equal(room(s.Indexes), indexesWere) {
			t.Fatalf("rule 2: Create turned what was handed in: %v", s)
		}
		spoilSchema(s)
		if got, e := Schema(d, own.Name); own.Name != "t" && (e != api.OK || !alike(got, own)) {
			t.Fatalf("rule 2: a schema that is turned behind a Create turns the table: %v, error %d", got, e)
		}
	}
	for _, l := range []values{roomyRow(word("a"), num(1), truth(0)), roomyRow(word("b"), none(), none()), roomyRow(word("c"), num(1), none()), roomyRow(word("d")), roomyRow()} {
		was := room(l)
		for what, call := range map[string]func() api.Errno{
			"Insert": func() api.Errno { return Insert(d, "mixed", l) },
			"Update": func() api.Errno { return Update(d, "mixed", l) },
			"no":     func() api.Errno { return Update(d, "none", l) },
		} {
			call()
			if !slices.Equal(room(l), was) {
				t.Fatalf("rule 2: %s turned what was handed in: %v, was %v", what, room(l), was)
			}
		}
		told := whole(t, d)
		spoil(l, word("x"))
		mustBeTold(t, d, told, "rule 2: a row that is turned behind a call")
	}
	mustScan(t, d, "mixed", 0, none(), none(), 4, `("a" 1 false) ("b" - -)`)
}

// TestAnswersAreNewMemory: what was told may be turned, and nothing else is.
func TestAnswersAreNewMemory(t *testing.T) {
	d := newDraft(t, mixed(), sharing())
	mustInsert(t, d, "mixed", values{word("a"), num(1), truth(0)}, values{word("b"), num(2), truth(0)}, values{word("c"), num(3), truth(1)})
	told, mark := whole(t, d), d.Mark()
	mustStay := func(why string) {
		t.Helper()
		mustBeTold(t, d, told, "rule 2: behind "+why+" whose answer was turned")
		if d.Mark() != mark {
			t.Fatalf("15: %s changed the draft", why)
		}
	}
	first, _ := Schema(d, "mixed")
	second, _ := Schema(d, "mixed")
	spoilSchema(first)
	if !alike(second, mixed()) {
		t.Fatal("rule 2: two answers of Schema share memory")
	}
	mustStay("Schema")
	names, _ := Names(d)
	again, _ := Names(d)
	spoil(names, "x")
	if !slices.Equal(again, []string{"mixed", "sharing"}) {
		t.Fatal("rule 2: two answers of Names share memory")
	}
	mustStay("Names")
	row, _ := Get(d, "mixed", word("a"))
	other, _ := Get(d, "mixed", word("a"))
	spoil(row, num(9))
	if !slices.Equal(other, values{word("a"), num(1), truth(0)}) {
		t.Fatal("rule 2: two answers of Get share memory")
	}
	mustStay("Get")
	for column := range 3 {
		rows, _ := Scan(d, "mixed", column, none(), none(), 4)
		others, _ := Scan(d, "mixed", column, none(), none(), 4)
		want := spelled(others)
		for i, l := range rows {
			spoil(l, num(i))
			if i > 0 && slices.Contains(rows[i-1][:cap(rows[i-1])], num(i)) {
				t.Fatal("rule 2: two rows of one Scan share memory")
			}
		}
		spoil(rows, nil)
		if spelled(others) != want {
			t.Fatal("rule 2: two answers of Scan share memory")
		}
		mustStay("Scan")
	}
}

// TestAnAnswerStays: what was told is not turned by what is done later.
func TestAnAnswerStays(t *testing.T) {
	d := newDraft(t, little())
	mustInsert(t, d, "t", values{num(1), word("a")}, values{num(2), word("b")})
	row, _ := Get(d, "t", num(1))
	rows, _ := Scan(d, "t", 1, none(), none(), 4)
	names, _ := Names(d)
	s, _ := Schema(d, "t")
	mustTell(t, Update(d, "t", values{num(1), word("z")}), api.OK, "15.2: Update")
	mustTell(t, Delete(d, "t", num(2)), api.OK, "15.2: Delete")
	mustTell(t, d.Back(0), api.OK, "13.2: Back")
	mustTell(t, Create(d, mixed()), api.OK, "15.1: Create")
	mustInsert(t, d, "mixed", values{word("q"), num(5), truth(1)})
	if spelledRow(row) != `(1 "a")` || spelled(rows) != `(1 "a") (2 "b")` || !slices.Equal(names, []string{"t"}) || !alike(s, little()) {
		t.Errorf("rule 2: an answer was turned: %s, %s, %v, %v", spelledRow(row), spelled(rows), names, s)
	}
}
