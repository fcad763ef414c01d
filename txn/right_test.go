package txn

import (
	"fmt"
	"math"
	"math/rand"
	"slices"
	"testing"

	"headland/api"
	"headland/keys"
	"headland/schema"
)

// ofKinds are operations of each kind that are right.
func ofKinds() ops {
	return ops{create(little("t")), insert("t", num(1), word("a")), update("t", num(1), word("a")), remove("t", num(1)), ask("t", num(1)), scan("t", 1, word("a"), word("b"), 2), insert("t"), update("t"), remove("t", none()), ask("t", none()), all("t")}
}

func mustBeRight(t *testing.T, o api.Op, why string) {
	t.Helper()
	if !Right(ops{o}) {
		t.Errorf("16.1: Right of %s: false: %.300s", why, fmt.Sprint(o))
	}
}

func mustBeWrong(t *testing.T, o api.Op, why string) {
	t.Helper()
	if Right(ops{o}) {
		t.Errorf("16.1: Right of %s: true: %.300s", why, fmt.Sprint(o))
	}
}

func TestHowManyOperations(t *testing.T) {
	for count := range 9 {
		for _, o := range ofKinds() {
			if Right(slices.Repeat(ops{o}, count)) != (count <= 3) {
				t.Errorf("16.1: Right of %d operations of kind %d", count, o.Kind)
			}
		}
	}
	if !Right(nil) || !Right(ops{}) || Right(slices.Repeat(ops{all("t")}, 1000)) {
		t.Error("16.1: Right of no operation, or of very many")
	}
	if !Right(ofKinds()[:3]) || !Right(ofKinds()[3:6]) || Right(ofKinds()) {
		t.Error("16.1: Right of unlike operations")
	}
	for _, o := range wrongOps() {
		mustBeWrong(t, o, "a wrong one alone")
		for count := 1; count <= 3; count++ {
			for at := range count {
				l := slices.Clone(ofKinds()[:count])
				l[at] = o
				if Right(l) {
					t.Errorf("16.1: Right of %d, %v among them", count, o)
				}
			}
		}
	}
}

func TestKinds(t *testing.T) {
	for _, o := range ofKinds() {
		mustBeRight(t, o, "one of its kind")
		for _, kind := range []int{0, 7, 8, -1, -2, -6, 6 + 1<<8, 1 + 1<<32, math.MinInt, math.MaxInt} {
			mustBeWrong(t, turned(o, func(o *api.Op) { o.Kind = kind }), "a kind that there is not")
		}
	}
	for kind := -2; kind < 10; kind++ {
		mustBeWrong(t, api.Op{Kind: kind}, "a kind without fields")
	}
}

// fields of an operation, each with its kinds, and turned from zero or empty.
var fields = []struct {
	name  string
	kinds []int
	turns []func(o *api.Op)
}{
	{"Table", []int{2, 3, 4, 5, 6}, []func(o *api.Op){func(o *api.Op) { o.Table = "t" }, func(o *api.Op) { o.Table = "\x00" }, func(o *api.Op) { o.Table = "\xFF" }}},
	{"Schema", []int{1}, []func(o *api.Op){func(o *api.Op) { o.Schema = little("t") }, func(o *api.Op) { o.Schema.Name = "t" }, func(o *api.Op) { o.Schema.Columns = make([]api.Column, 1) }, func(o *api.Op) { o.Schema.Indexes = make([]api.Index, 1) }}},
	{"Row", []int{2, 3}, []func(o *api.Op){func(o *api.Op) { o.Row = values{num(1), word("a")} }, func(o *api.Op) { o.Row = values{none()} }, func(o *api.Op) { o.Row = make(values, 4) }}},
	{"Key", []int{4, 5}, []func(o *api.Op){func(o *api.Op) { o.Key = num(0) }, func(o *api.Op) { o.Key = word("") }, func(o *api.Op) { o.Key.N = 1 }, func(o *api.Op) { o.Key.S = "a" }, func(o *api.Op) { o.Key.Kind = -1 }}},
	{"Column", []int{6}, []func(o *api.Op){func(o *api.Op) { o.Column = 1 }, func(o *api.Op) { o.Column = -1 }, func(o *api.Op) { o.Column = math.MinInt }}},
	{"Lo", []int{6}, []func(o *api.Op){func(o *api.Op) { o.Lo = num(0) }, func(o *api.Op) { o.Lo = word("") }, func(o *api.Op) { o.Lo.N = 1 }, func(o *api.Op) { o.Lo.S = "a" }}},
	{"Hi", []int{6}, []func(o *api.Op){func(o *api.Op) { o.Hi = num(0) }, func(o *api.Op) { o.Hi = word("") }, func(o *api.Op) { o.Hi.N = 1 }, func(o *api.Op) { o.Hi.S = "a" }}},
	{"Limit", []int{6}, []func(o *api.Op){func(o *api.Op) { o.Limit = 1 }, func(o *api.Op) { o.Limit = -1 }, func(o *api.Op) { o.Limit = math.MaxInt }}},
}

// TestFieldsThatAKindDoesNotHave are zero or empty.
func TestFieldsThatAKindDoesNotHave(t *testing.T) {
	for _, o := range ofKinds() {
		for _, f := range fields {
			if slices.Contains(f.kinds, o.Kind) {
				continue
			}
			for i, turn := range f.turns {
				mustBeWrong(t, turned(o, turn), fmt.Sprintf("kind %d with a %s, turned in way %d", o.Kind, f.name, i))
			}
		}
		empty := turned(o, func(o *api.Op) {
			if len(o.Row) == 0 {
				o.Row = values{}
			}
			if o.Kind != api.Create {
				o.Schema.Columns, o.Schema.Indexes = []api.Column{}, make([]api.Index, 0, 3)
			}
		})
		mustBeRight(t, empty, fmt.Sprintf("kind %d with empty lists in the place of nil ones", o.Kind))
	}
}

func TestTable(t *testing.T) {
	for _, o := range ofKinds()[1:] {
		for _, name := range wrongNames() {
			mustBeWrong(t, turned(o, func(o *api.Op) { o.Table = name }), "a Table that is no Name")
		}
		for _, name := range []string{"a", "z", "nosuch", "abcdefgh"} {
			mustBeRight(t, turned(o, func(o *api.Op) { o.Table = name }), "a Table that is a Name")
		}
	}
}

func TestSchemaOfCreate(t *testing.T) {
	for _, s := range wrongSchemas() {
		mustBeWrong(t, create(s), "Create of a Schema that is not Right")
	}
	bare := api.Schema{Name: "abcdefgh", Columns: []api.Column{{Name: "a", Kind: api.Bool}}}
	for _, s := range []api.Schema{little("t"), texts(), bare} {
		mustBeRight(t, create(s), "Create of a Schema that is Right")
	}
}

func TestRow(t *testing.T) {
	for _, kind := range []int{api.Insert, api.Update} {
		of := func(l ...api.Value) api.Op { return api.Op{Kind: kind, Table: "t", Row: l} }
		for count := range 10 {
			for _, v := range rightValues() {
				if l := slices.Repeat(values{v}, count); Right(ops{of(l...)}) != (count <= 3) {
					t.Errorf("16.1: Right of kind %d with a Row of %d values %v", kind, count, v)
				}
			}
		}
		mustBeRight(t, of(none(), truth(1), word("12345678")), "a Row that no table may take")
		for _, v := range wrongValues() {
			for _, l := range []values{{v}, {v, num(1)}, {num(1), v}, {v, num(1), num(2)}, {num(1), v, num(2)}, {num(1), num(2), v}} {
				mustBeWrong(t, of(l...), "a wrong value in a Row")
			}
		}
	}
}

func TestKeyAndBounds(t *testing.T) {
	for _, v := range rightValues() {
		mustBeRight(t, remove("t", v), "Delete by a Key")
		mustBeRight(t, ask("t", v), "Get by a Key")
		for _, w := range rightValues() {
			mustBeRight(t, scan("t", 0, v, w, 1), "Scan from a Lo, below a Hi")
		}
		for _, w := range wrongValues() {
			mustBeWrong(t, scan("t", 0, v, w, 1), "Scan below a wrong Hi")
			mustBeWrong(t, scan("t", 0, w, v, 1), "Scan from a wrong Lo")
		}
	}
	for _, v := range wrongValues() {
		mustBeWrong(t, remove("t", v), "Delete by a wrong Key")
		mustBeWrong(t, ask("t", v), "Get by a wrong Key")
	}
}

func TestColumnAndLimit(t *testing.T) {
	edges := []int{math.MinInt, -5, -4, -3, -2, -1, 0, 1, 2, 3, 4, 5, 6, 7, 1 << 8, 1 << 32, math.MaxInt}
	for _, column := range edges {
		for _, limit := range edges {
			if Right(ops{scan("t", column, none(), none(), limit)}) != (column >= 0 && column <= 2 && limit >= 1 && limit <= 4) {
				t.Errorf("16.1: Right of a Scan by the column %d with the Limit %d", column, limit)
			}
		}
	}
}

func TestReads(t *testing.T) {
	get, scan := ask("t", num(1)), all("t")
	for _, l := range []ops{nil, {}, {get}, {scan}, {get, scan}, {scan, get, get}, {get, get, get, get}, {{Kind: api.Get, Limit: 9}}, {{Kind: api.Scan}}} {
		if !Reads(l) {
			t.Errorf("16.1: Reads of %v: false", l)
		}
	}
	for _, o := range append(ofKinds()[:4:4], append(wrongOps()[:3:3], api.Op{Kind: math.MinInt}, api.Op{Kind: math.MaxInt})...) {
		for _, l := range []ops{{o}, {o, get}, {get, o}, {o, scan, get}, {scan, o, get}, {scan, get, o}, {o, o, o, o}} {
			if Reads(l) {
				t.Errorf("16.1: Reads of %v: true", l)
			}
		}
	}
}

// plainRight is 16.1 by its words, of one operation.
func plainRight(o api.Op) bool {
	long := func(v api.Value) bool { return keys.Right(v) != api.OK || len([]rune(v.S)) > 8 }
	for _, f := range fields {
		zero := map[string]bool{"Table": o.Table == "", "Schema": o.Schema.Name == "" && len(o.Schema.Columns)+len(o.Schema.Indexes) == 0, "Row": len(o.Row) == 0, "Key": o.Key == none(), "Column": o.Column == 0, "Lo": o.Lo == none(), "Hi": o.Hi == none(), "Limit": o.Limit == 0}
		if !slices.Contains(f.kinds, o.Kind) && !zero[f.name] {
			return false
		}
	}
	switch {
	case o.Kind < 1 || o.Kind > 6 || len(o.Row) > 3 || slices.ContainsFunc(append(values{o.Key, o.Lo, o.Hi}, o.Row...), long):
		return false
	case o.Kind == 1:
		return schema.Right(o.Schema) == api.OK
	case o.Kind == 6 && (o.Column < 0 || o.Column > 2 || o.Limit < 1 || o.Limit > 4):
		return false
	}
	return schema.Name(o.Table)
}

func one[T any](r *rand.Rand, l ...T) T { return l[r.Intn(len(l))] }

// mostly is a right one but for one time in some.
func mostly[T any](r *rand.Rand, right, wrong []T) T {
	if r.Intn(12) == 0 {
		return one(r, wrong...)
	}
	return one(r, right...)
}

// someOp is an operation of whose fields some may be wrong, or none of its kind's.
func someOp(r *rand.Rand) api.Op {
	value := func() api.Value { return mostly(r, rightValues(), wrongValues()) }
	o := api.Op{Kind: mostly(r, []int{1, 2, 3, 4, 5, 6}, []int{0, 7, -1, 99})}
	for _, f := range fields {
		if slices.Contains(f.kinds, o.Kind) == (r.Intn(15) == 0) {
			continue
		}
		switch f.name {
		case "Table":
			o.Table = mostly(r, []string{"t", "texts"}, wrongNames())
		case "Schema":
			o.Schema = mostly(r, []api.Schema{little("t"), texts()}, wrongSchemas())
		case "Row":
			for range r.Intn(4) + r.Intn(9)/8 {
				o.Row = append(o.Row, value())
			}
		case "Key":
			o.Key = value()
		case "Column":
			o.Column = r.Intn(3) - r.Intn(12)/11 + r.Intn(12)/11
		case "Lo":
			o.Lo = value()
		case "Hi":
			o.Hi = value()
		case "Limit":
			o.Limit = 1 + r.Intn(4) - r.Intn(12)/11 + r.Intn(12)/11
		}
	}
	return o
}

func TestRightByItsWords(t *testing.T) {
	r, count := rand.New(rand.NewSource(16)), map[string]int{}
	for range 40000 {
		l := make(ops, r.Intn(5))
		want := len(l) <= 3
		for i := range l {
			l[i] = someOp(r)
			want = want && plainRight(l[i])
			count[fmt.Sprint(l[i].Kind, plainRight(l[i]))]++
		}
		if Right(l) != want {
			t.Fatalf("16.1: Right is not %v: %.999s", want, fmt.Sprint(l))
		}
	}
	for kind := 1; kind <= 6; kind++ {
		if count[fmt.Sprint(kind, true)] < 500 || count[fmt.Sprint(kind, false)] < 500 {
			t.Errorf("16.1: too few of kind %d: %v", kind, count)
		}
	}
}
