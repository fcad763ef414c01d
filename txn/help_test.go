package txn

import (
	"fmt"
	"math"
	"strings"
	"testing"

	"headland/api"
	"headland/disk"
	"headland/draft"
	"headland/local"
	"headland/table"
)

type (
	ops    = []api.Op
	values = []api.Value
	rows   = [][]api.Value
)

func none() api.Value         { return api.Value{} }
func num(n int) api.Value     { return api.Value{Kind: api.Int, N: n} }
func word(s string) api.Value { return api.Value{Kind: api.Text, S: s} }
func truth(n int) api.Value   { return api.Value{Kind: api.Bool, N: n} }

// little is the table of the document's examples.
func little(name string) api.Schema {
	return api.Schema{Name: name, Columns: []api.Column{{Name: "k", Kind: api.Int}, {Name: "n", Kind: api.Text, Max: 3}}, Indexes: []api.Index{{Column: 1, Unique: true}}}
}

// texts has a text for its key, an index that is not Unique over its last column, and a column without one ahead of it.
func texts() api.Schema {
	return api.Schema{Name: "texts", Columns: []api.Column{{Name: "k", Kind: api.Text, Max: 8}, {Name: "b", Kind: api.Bool}, {Name: "n", Kind: api.Text, Max: 8}}, Indexes: []api.Index{{Column: 2}}}
}

func create(s api.Schema) api.Op             { return api.Op{Kind: api.Create, Schema: s} }
func insert(t string, l ...api.Value) api.Op { return api.Op{Kind: api.Insert, Table: t, Row: l} }
func update(t string, l ...api.Value) api.Op { return api.Op{Kind: api.Update, Table: t, Row: l} }
func remove(t string, key api.Value) api.Op  { return api.Op{Kind: api.Delete, Table: t, Key: key} }
func ask(t string, key api.Value) api.Op     { return api.Op{Kind: api.Get, Table: t, Key: key} }
func scan(t string, column int, lo, hi api.Value, limit int) api.Op {
	return api.Op{Kind: api.Scan, Table: t, Column: column, Lo: lo, Hi: hi, Limit: limit}
}

// all is a Scan by a table's first column.
func all(t string) api.Op { return scan(t, 0, none(), none(), api.MaxTold) }

func turned(o api.Op, turn func(o *api.Op)) api.Op { turn(&o); return o }

// wrongValues are not keys.Right, or longer than a text may be.
func wrongValues() values {
	return values{{Kind: -1}, {Kind: 4}, {Kind: math.MaxInt}, {N: 1}, {S: "a"}, {Kind: api.Int, S: "a"}, {Kind: api.Bool, N: 2}, {Kind: api.Bool, N: -1}, {Kind: api.Bool, S: "a"}, {Kind: api.Text, N: 1, S: "a"}, word("\xFF"), word("a\xC3"), word("\xED\xA0\x80"), word("\xF4\x90\x80\x80"), word("\xC0\x80"),
		word("123456789"), word(strings.Repeat("ä", 9)), word(strings.Repeat("€", 9)), word(strings.Repeat("\U0001F600", 9)), word("12345678\x00"), word(strings.Repeat("a", 500))}
}

func rightValues() values {
	return values{none(), num(0), num(math.MinInt), num(math.MaxInt), truth(0), truth(1), word(""), word("a"), word("Ä"), word("12345678"), word(strings.Repeat("ä", 8)), word(strings.Repeat("€", 8)), word(strings.Repeat("\U0010FFFF", 8)), word("\x00\x00\x00\x00\x00\x00\x00\x00")}
}

func wrongSchemas() []api.Schema {
	wrong := func(turn func(s *api.Schema)) api.Schema { s := little("t"); turn(&s); return s }
	return []api.Schema{{}, {Name: "t"}, little(""), little("T"), little("Ä"), little("abcdefghi"), little("a b"),
		wrong(func(s *api.Schema) { s.Columns = nil }),
		wrong(func(s *api.Schema) { s.Columns[0].Name = "K" }),
		wrong(func(s *api.Schema) { s.Columns[1].Name = "k" }),
		wrong(func(s *api.Schema) { s.Columns[1].Max = 9 }),
		wrong(func(s *api.Schema) { s.Columns[0].Kind = api.Nothing }),
		wrong(func(s *api.Schema) { s.Columns = append(s.Columns, s.Columns...) }),
		wrong(func(s *api.Schema) { s.Indexes[0].Column = 0 }),
		wrong(func(s *api.Schema) { s.Indexes[0].Column = 2 }),
		wrong(func(s *api.Schema) { s.Indexes = append(s.Indexes, s.Indexes...) })}
}

func wrongNames() []string {
	return []string{"", "T", "Ä", "ä", "t ", " t", "t1", "t\x00", "\xFF", "abcdefghi", strings.Repeat("t", 500)}
}

// wrongOps are no operations: one of each sort.
func wrongOps() ops {
	return ops{{}, {Kind: 7}, {Kind: -1}, create(little("T")), turned(create(little("u")), func(o *api.Op) { o.Table = "u" }), insert("T", num(9), word("z")), insert("t", num(9), word("\xFF")), insert("t", num(9), none(), none(), none()), turned(update("t", num(1), none()), func(o *api.Op) { o.Key = num(1) }), ask("t", word("123456789")), remove("t", api.Value{Kind: 9}), scan("t", 3, none(), none(), 1), scan("t", 0, none(), none(), 5), scan("t", 0, none(), num(1), 0)}
}

func newStore(t *testing.T) (*local.Store, *disk.Disk) {
	t.Helper()
	x, e := disk.New(1000)
	mustTell(t, e, api.OK, "3.1: New")
	s, e := local.Open(x)
	mustTell(t, e, api.OK, "6.1: Open")
	return s, x
}

func over(t *testing.T, s *local.Store) *draft.Draft {
	t.Helper()
	d, e := draft.New(s)
	mustTell(t, e, api.OK, "13.1: New")
	return d
}

// newDraft is a draft that some operations were done to.
func newDraft(t *testing.T, l ...api.Op) *draft.Draft {
	t.Helper()
	s, _ := newStore(t)
	d := over(t, s)
	mustDo(t, d, l...)
	return d
}

// mustDo does operations one by one.
func mustDo(t *testing.T, d *draft.Draft, l ...api.Op) {
	t.Helper()
	for _, o := range l {
		if r, e := Run(d, ops{o}, 1); r.Err != api.OK || e != api.OK {
			t.Fatalf("16.2: Run of %v alone: %v, error %d", o, r, e)
		}
	}
}

// filled is a draft over a store that has two tables with rows, which has changed something itself.
func filled(t *testing.T) (*draft.Draft, *local.Store, *disk.Disk) {
	t.Helper()
	s, x := newStore(t)
	d := over(t, s)
	mustDo(t, d, create(little("t")), create(texts()))
	for i, letter := range []string{"a", "B", "c", "D", "e", "F", "g", "H", "i"} {
		mustDo(t, d, insert("t", num(i+1), word(letter)), insert("texts", word(letter), truth(i%2), word(letter+letter)))
	}
	mustTell(t, s.Apply(1, d.Changes()), api.OK, "6.3: Apply")
	d = over(t, s)
	mustDo(t, d, update("t", num(2), word("b")), remove("t", num(9)), insert("texts", word("Äx"), truth(1), word("ÖÜ")))
	return d, s, x
}

func mustTell(t *testing.T, got, want api.Errno, why string) {
	t.Helper()
	if got != want {
		t.Fatalf("%s: error %d, not %d", why, got, want)
	}
}

func changed(d *draft.Draft) string { return fmt.Sprint(d.Mark(), d.Changes()) }

// whole is all that a draft tells: its changes, its pairs, its tables.
func whole(t *testing.T, d *draft.Draft) string {
	t.Helper()
	told := changed(d)
	for space := range api.MaxSpaces {
		l, e := d.Range(space, nil, nil, math.MaxInt)
		mustTell(t, e, api.OK, "13.1: Range")
		told += fmt.Sprint(l)
	}
	names, e := table.Names(d)
	mustTell(t, e, api.OK, "15.1: Names")
	for _, name := range names {
		n, e := table.Len(d, name)
		mustTell(t, e, api.OK, "15.1: Len")
		l, e := table.Scan(d, name, 0, none(), none(), 4)
		mustTell(t, e, api.OK, "15.3: Scan")
		told += fmt.Sprint(name, n, l)
	}
	return told
}

// mustReply runs operations, whose Reply is known; a refused Run, and one that only reads, changes nothing.
func mustReply(t *testing.T, d *draft.Draft, l ops, version int, want api.Reply, why string) {
	t.Helper()
	was := whole(t, d)
	r, e := Run(d, l, version)
	if e != api.OK || spelled(r) != spelled(want) {
		t.Fatalf("16.2: %s: %s, error %d, not %s", why, spelled(r), e, spelled(want))
	}
	if (want.Err != api.OK || Reads(l)) && whole(t, d) != was {
		t.Fatalf("16.4: %s: %s, but the draft is changed", why, spelled(r))
	}
}

// mustRefuse runs operations of which there is no Reply.
func mustRefuse(t *testing.T, d *draft.Draft, l ops, version int, want api.Errno, why string) {
	t.Helper()
	was := changed(d)
	r, e := Run(d, l, version)
	if e != want || spelled(r) != spelled(api.Reply{}) {
		t.Fatalf("16.2: %s: %s, error %d, not %d and no Reply", why, spelled(r), e, want)
	}
	if changed(d) != was {
		t.Fatalf("16.2: %s: refused by %d, but the draft is changed", why, e)
	}
}

// spelled is a Reply as a text, with all fields of each value.
func spelled(r api.Reply) string {
	told := fmt.Sprint(r.Err, " at ", r.At, ":")
	for _, l := range r.Rows {
		told += " ("
		for _, v := range l {
			told += fmt.Sprintf(" %d/%d/%q", v.Kind, v.N, v.S)
		}
		told += " )"
	}
	return told
}
