package txn

import (
	"fmt"
	"math/rand"
	"testing"

	"headland/api"
	"headland/draft"
	"headland/keys"
	"headland/local"
	"headland/table"
)

// oneByOne runs operations alone, one behind the other, up to the first that is refused, and goes back to where it began if one is.
func oneByOne(d *draft.Draft, l ops, run func(*draft.Draft, api.Op) (rows, api.Errno)) (api.Reply, api.Errno) {
	var told rows
	mark := d.Mark()
	for at, o := range l {
		more, e := run(d, o)
		if e != api.OK {
			d.Back(mark)
		}
		switch {
		case e == api.ErrDown || e == api.ErrCorrupt:
			return api.Reply{}, e
		case e != api.OK:
			return api.Reply{Err: e, At: at}, api.OK
		}
		told = append(told, more...)
	}
	return api.Reply{Rows: told}, api.OK
}

// runAlone is a Run of one operation.
func runAlone(version int) func(*draft.Draft, api.Op) (rows, api.Errno) {
	return func(d *draft.Draft, o api.Op) (rows, api.Errno) {
		r, e := Run(d, ops{o}, version)
		if e == api.OK {
			e = r.Err
		}
		return r.Rows, e
	}
}

// some are operations of which some are taken just behind others.
func some() ops {
	return ops{create(little("u")), insert("t", num(50), word("Q")), insert("t", num(51), word("q")), update("t", num(1), word("q")), update("t", num(50), word("W")), remove("t", num(1)), remove("t", num(50)), ask("t", num(50)), all("t"), scan("t", 1, word("P"), none(), 3), insert("u", num(1), word("A")), scan("u", 1, none(), none(), 1), insert("texts", word("ж"), none(), none()), ask("texts", word("Ж"))}
}

// TestOneRunIsRunsOfEach: of operations that are all taken; and if one is refused, it is the one that is refused alone.
func TestOneRunIsRunsOfEach(t *testing.T) {
	first, s, _ := filled(t)
	mustTell(t, s.Apply(2, first.Changes()), api.OK, "6.3: Apply")
	whole := over(t, s)
	parts := over(t, s)
	taken := 0
	for _, x := range some() {
		for _, y := range some() {
			for _, z := range some() {
				for version := 1; version <= 2; version++ {
					l := ops{x, y, z}
					r, e := Run(whole, l, version)
					want, _ := oneByOne(parts, l, runAlone(version))
					if e != api.OK || spelled(r) != spelled(want) || changed(whole) != changed(parts) {
						t.Fatalf("16.4: Run of %v with the version %d: %s, error %d, not %s, or other changes", l, version, spelled(r), e, spelled(want))
					}
					if r.Err == api.OK {
						taken++
					}
					whole.Back(0)
					parts.Back(0)
				}
			}
		}
	}
	if taken < 500 {
		t.Errorf("16.4: only %d Runs were taken", taken)
	}
}

// called is an operation done by a table's call.
func called(version int) func(*draft.Draft, api.Op) (rows, api.Errno) {
	fold := func(l ...api.Value) values {
		var small values
		for _, v := range l {
			if version == 2 && v.Kind == api.Text {
				v.S = keys.Fold(v.S)
			}
			small = append(small, v)
		}
		return small
	}
	return func(d *draft.Draft, o api.Op) (rows, api.Errno) {
		switch o.Kind {
		case api.Create:
			return nil, table.Create(d, o.Schema)
		case api.Insert:
			return nil, table.Insert(d, o.Table, fold(o.Row...))
		case api.Update:
			return nil, table.Update(d, o.Table, fold(o.Row...))
		case api.Delete:
			return nil, table.Delete(d, o.Table, fold(o.Key)[0])
		case api.Get:
			row, e := table.Get(d, o.Table, fold(o.Key)[0])
			return rows{row}, e
		}
		span := fold(o.Lo, o.Hi)
		return table.Scan(d, o.Table, o.Column, span[0], span[1], o.Limit)
	}
}

// rightOp is an operation that may be run, of few texts and numbers, so that rows meet.
func rightOp(r *rand.Rand) api.Op {
	name := one(r, "t", "texts", "t", "texts", "u", "v", "w")
	text := func() api.Value {
		return word(one(r, "", "a", "A", "b", "B", "ä", "Ä", "ж", "Ж", "ab", "AB", "abcd"))
	}
	key := func() api.Value {
		if r.Intn(12) == 0 {
			return one(r, rightValues()...)
		}
		if name == "texts" {
			return text()
		}
		return num(r.Intn(12))
	}
	maybe := func() api.Value { return one(r, none(), text(), text()) }
	row := func() values {
		if name == "texts" {
			return values{key(), one(r, none(), truth(0), truth(1)), maybe()}
		}
		return values{key(), maybe()}[:2-r.Intn(20)/19]
	}
	switch r.Intn(14) {
	case 0:
		return create(one(r, texts(), little(one(r, "t", "u", "v", "w", "x"))))
	case 1, 2, 3, 4:
		return insert(name, row()...)
	case 5, 6, 7:
		return update(name, row()...)
	case 8, 9:
		return remove(name, key())
	case 10, 11:
		return ask(name, key())
	}
	return scan(name, r.Intn(3), maybe(), one(r, none(), text(), key()), 1+r.Intn(4))
}

// beside is a draft to which all is done by Run, and one to which it is done by tables' calls.
type beside struct {
	t      *testing.T
	stores [2]*local.Store
	drafts [2]*draft.Draft
	count  map[string]int
}

func (b *beside) step(l ops, version int) {
	b.t.Helper()
	r, e := Run(b.drafts[0], l, version)
	want, _ := oneByOne(b.drafts[1], l, called(version))
	if e != api.OK || spelled(r) != spelled(want) {
		b.t.Fatalf("16.2: Run of %v with the version %d: %s, error %d, not %s", l, version, spelled(r), e, spelled(want))
	}
	if changed(b.drafts[0]) != changed(b.drafts[1]) {
		b.t.Fatalf("16.2: Run of %v with the version %d: other changes", l, version)
	}
	b.count[fmt.Sprint(r.Err, " at ", r.At)]++
}

func (b *beside) apply() {
	for i, s := range b.stores {
		mustTell(b.t, s.Apply(s.Pos()+1, b.drafts[i].Changes()), api.OK, "6.3: Apply")
		b.drafts[i] = over(b.t, s)
	}
}

// TestRunsAreTablesCalls: whatever comes, with either version.
func TestRunsAreTablesCalls(t *testing.T) {
	count := map[string]int{}
	for seed := range int64(12) {
		r := rand.New(rand.NewSource(seed))
		b := &beside{t: t, count: count}
		for i := range b.drafts {
			b.stores[i], _ = newStore(t)
			b.drafts[i] = over(t, b.stores[i])
		}
		for i := range 400 {
			l := make(ops, r.Intn(4))
			for at := range l {
				l[at] = rightOp(r)
			}
			b.step(l, 1+r.Intn(2))
			if i%25 == 24 {
				b.apply()
			}
		}
		if whole(t, b.drafts[0]) != whole(t, b.drafts[1]) {
			t.Fatal("16.2: Runs and tables' calls have told the same, but left other tables")
		}
	}
	if count["0 at 0"] < 100 {
		t.Errorf("16.2: only %d Runs were taken", count["0 at 0"])
	}
	for _, e := range []api.Errno{api.ErrNone, api.ErrTable, api.ErrRow, api.ErrKey, api.ErrUnique, api.ErrColumn, api.ErrMany} {
		if n := count[fmt.Sprint(e, " at 0")] + count[fmt.Sprint(e, " at 1")] + count[fmt.Sprint(e, " at 2")]; n < 5 {
			t.Errorf("16.2: only %d Runs were refused by %d", n, e)
		}
	}
}
