package table

import (
	"fmt"
	"math"
	"slices"
	"strings"
	"testing"

	"headland/api"
	"headland/disk"
	"headland/draft"
	"headland/local"
)

type (
	values  = []api.Value
	columns = []api.Column
	indexes = []api.Index
)

func none() api.Value         { return api.Value{} }
func num(n int) api.Value     { return api.Value{Kind: api.Int, N: n} }
func word(s string) api.Value { return api.Value{Kind: api.Text, S: s} }
func truth(n int) api.Value   { return api.Value{Kind: api.Bool, N: n} }

func intColumn(name string) api.Column  { return api.Column{Name: name, Kind: api.Int} }
func boolColumn(name string) api.Column { return api.Column{Name: name, Kind: api.Bool} }
func textColumn(name string, max int) api.Column {
	return api.Column{Name: name, Kind: api.Text, Max: max}
}

// little is the table of the chapter.
func little() api.Schema {
	return api.Schema{Name: "t", Columns: columns{intColumn("k"), textColumn("n", 3)}, Indexes: indexes{{Column: 1, Unique: true}}}
}

// mixed has each Kind, a key that is a text, an index of each sort, the later column's first.
func mixed() api.Schema {
	return api.Schema{Name: "mixed", Columns: columns{textColumn("k", 8), intColumn("a"), boolColumn("b")}, Indexes: indexes{{Column: 2}, {Column: 1, Unique: true}}}
}

// greatest has as much of all as a table may have: no keys are longer.
func greatest() api.Schema {
	return api.Schema{Name: "zzzzzzzz", Columns: columns{textColumn("abcdefgh", 8), textColumn("bcdefghi", 8), textColumn("stuvwxyz", 8)}, Indexes: indexes{{Column: 1, Unique: true}, {Column: 2, Unique: true}}}
}

// bare has no index.
func bare() api.Schema {
	return api.Schema{Name: "bare", Columns: columns{intColumn("k"), intColumn("a"), intColumn("b")}}
}

// sharing has an index that is not Unique, and a column without one ahead of it.
func sharing() api.Schema {
	return api.Schema{Name: "sharing", Columns: columns{intColumn("k"), intColumn("a"), intColumn("b")}, Indexes: indexes{{Column: 2}}}
}

func named(name string) api.Schema {
	s := little()
	s.Name = name
	return s
}

// wrongValues are not keys.Right.
func wrongValues() values {
	return values{{Kind: -1}, {Kind: 4}, {Kind: math.MinInt}, {N: 1}, {S: "a"}, {Kind: api.Int, S: "a"}, {Kind: api.Bool, N: 2}, {Kind: api.Bool, N: -1}, {Kind: api.Bool, S: "a"}, {Kind: api.Text, N: 1, S: "a"}, word("\xFF"), word("a\xC3"), word("\xED\xA0\x80"), word(strings.Repeat("\x80", 100))}
}

// noNames are names that no table has, whatever tables there are of those above.
func noNames() []string {
	return []string{"", "u", "T", "tt", "t ", "t\x00", "mixe", "mixedd", "zzzzzzz", "zzzzzzzzz", "ä", "\xFF", strings.Repeat("t", 60), strings.Repeat("t", 61), strings.Repeat("x", 100000)}
}

func newStore(t *testing.T) (*local.Store, *disk.Disk) {
	t.Helper()
	x, e := disk.New(1000)
	mustTell(t, e, api.OK, "3.1: New")
	s, e := local.Open(x)
	mustTell(t, e, api.OK, "6.1: Open")
	return s, x
}

func over(t *testing.T, s *local.Store) *draft.Draft {
	t.Helper()
	d, e := draft.New(s)
	mustTell(t, e, api.OK, "13.1: New")
	return d
}

// newDraft has some tables, without rows.
func newDraft(t *testing.T, l ...api.Schema) *draft.Draft {
	t.Helper()
	s, _ := newStore(t)
	d := over(t, s)
	for _, s := range l {
		mustTell(t, Create(d, s), api.OK, "15.1: Create")
	}
	return d
}

func mustTell(t *testing.T, got, want api.Errno, why string) {
	t.Helper()
	if got != want {
		t.Fatalf("%s: error %d, not %d", why, got, want)
	}
}

func mustInsert(t *testing.T, d *draft.Draft, name string, rows ...values) {
	t.Helper()
	for _, l := range rows {
		mustTell(t, Insert(d, name, l), api.OK, "15.2: Insert of "+spelledRow(l)+" into "+name)
	}
}

func changed(d *draft.Draft) string { return fmt.Sprint(d.Mark(), d.Changes()) }

// mustRefuse makes a call, which is refused and changes nothing in the draft.
func mustRefuse(t *testing.T, d *draft.Draft, want api.Errno, why string, call func() api.Errno) {
	t.Helper()
	was := changed(d)
	mustTell(t, call(), want, why)
	if changed(d) != was {
		t.Fatalf("15: %s: refused by %d, but the draft is changed", why, want)
	}
}

func mustNotCreate(t *testing.T, d *draft.Draft, s api.Schema, want api.Errno, why string) {
	t.Helper()
	mustRefuse(t, d, want, "15.1: Create, "+why, func() api.Errno { return Create(d, s) })
}

func mustNotInsert(t *testing.T, d *draft.Draft, name string, l values, want api.Errno, why string) {
	t.Helper()
	mustRefuse(t, d, want, "15.2: Insert, "+why, func() api.Errno { return Insert(d, name, l) })
}

func mustNotUpdate(t *testing.T, d *draft.Draft, name string, l values, want api.Errno, why string) {
	t.Helper()
	mustRefuse(t, d, want, "15.2: Update, "+why, func() api.Errno { return Update(d, name, l) })
}

// mustNotFind is of Delete and of Get.
func mustNotFind(t *testing.T, d *draft.Draft, name string, key api.Value, want api.Errno, why string) {
	t.Helper()
	mustRefuse(t, d, want, "15.2: Delete, "+why, func() api.Errno { return Delete(d, name, key) })
	mustRefuse(t, d, want, "15.2: Get, "+why, func() api.Errno {
		l, e := Get(d, name, key)
		if len(l) > 0 {
			t.Fatalf("rule 4: Get, %s: %s beside an error", why, spelledRow(l))
		}
		return e
	})
}

func mustNotScan(t *testing.T, d *draft.Draft, name string, column int, lo, hi api.Value, limit int, want api.Errno, why string) {
	t.Helper()
	mustRefuse(t, d, want, "15.3: Scan, "+why, func() api.Errno {
		l, e := Scan(d, name, column, lo, hi, limit)
		if len(l) > 0 {
			t.Fatalf("rule 4: Scan, %s: %s beside an error", why, spelled(l))
		}
		return e
	})
}

func mustGet(t *testing.T, d *draft.Draft, name string, want values) {
	t.Helper()
	if l, e := Get(d, name, want[0]); e != api.OK || !slices.Equal(l, want) {
		t.Fatalf("15.2: Get: %s, error %d, not %s", spelledRow(l), e, spelledRow(want))
	}
}

func mustScan(t *testing.T, d *draft.Draft, name string, column int, lo, hi api.Value, limit int, want string) {
	t.Helper()
	l, e := Scan(d, name, column, lo, hi, limit)
	if got := spelled(l); e != api.OK || got != want {
		t.Fatalf("15.3: Scan of %s, column %d, from %s, below %s, limit %d: %s, error %d, not %s", name, column, spelledRow(values{lo}), spelledRow(values{hi}), limit, got, e, want)
	}
}

func mustCount(t *testing.T, d *draft.Draft, name string, want int) {
	t.Helper()
	if n, e := Len(d, name); n != want || e != api.OK {
		t.Fatalf("15.1: Len of %s: %d, error %d, not %d", name, n, e, want)
	}
}

func mustName(t *testing.T, d *draft.Draft, want ...string) {
	t.Helper()
	if l, e := Names(d); !slices.Equal(l, want) || e != api.OK {
		t.Fatalf("15.1: Names: %v, error %d, not %v", l, e, want)
	}
}

// allRows goes through a table by its first column, page by page.
func allRows(t *testing.T, d *draft.Draft, name string) []values {
	t.Helper()
	rows, e := Scan(d, name, 0, none(), none(), api.MaxTold)
	for more := rows; e == api.OK && len(more) > 1; rows = append(rows, more...) {
		more, e = Scan(d, name, 0, rows[len(rows)-1][0], none(), api.MaxTold)
		more = more[min(1, len(more)):]
	}
	mustTell(t, e, api.OK, "15.3: Scan of "+name)
	return rows
}

// whole is all that a draft tells of its tables.
func whole(t *testing.T, d *draft.Draft) string {
	t.Helper()
	names, e := Names(d)
	mustTell(t, e, api.OK, "15.1: Names")
	told := fmt.Sprint(names)
	for _, name := range names {
		s, e := Schema(d, name)
		mustTell(t, e, api.OK, "15.1: Schema")
		rows := allRows(t, d, name)
		mustCount(t, d, name, len(rows))
		for _, l := range rows {
			mustGet(t, d, name, l)
		}
		told += fmt.Sprint(" ", s, spelled(rows))
		for _, x := range s.Indexes {
			for _, l := range rows {
				told += scanned(d, name, x.Column, l[x.Column])
			}
			told += scanned(d, name, x.Column, none())
		}
	}
	return told
}

// scanned is the first rows by an index from a value on.
func scanned(d *draft.Draft, name string, column int, lo api.Value) string {
	l, e := Scan(d, name, column, lo, none(), api.MaxTold)
	return fmt.Sprint(" ", column, spelled(l), e)
}

func spelled(rows []values) string {
	l := make([]string, len(rows))
	for i, r := range rows {
		l[i] = spelledRow(r)
	}
	return strings.Join(l, " ")
}

func spelledRow(l values) string {
	s := make([]string, len(l))
	for i, v := range l {
		switch v {
		case none():
			s[i] = "-"
		case num(v.N):
			s[i] = fmt.Sprint(v.N)
		case word(v.S):
			s[i] = fmt.Sprintf("%q", v.S)
		case truth(v.N):
			s[i] = fmt.Sprint(v.N == 1)
		default:
			s[i] = fmt.Sprintf("%+v", v)
		}
	}
	return "(" + strings.Join(s, " ") + ")"
}
