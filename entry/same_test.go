package entry

import (
	"math"
	"testing"

	"headland/api"
)

// turns of one field alone of an entry with three commands of three operations, each field at each depth.
func turns() []func(e *api.Entry) {
	l := []func(e *api.Entry){func(e *api.Entry) {}}
	number := func(at func(e *api.Entry) *int) {
		for _, more := range []int{1, -9, 1 << 32, math.MinInt} {
			l = append(l, func(e *api.Entry) { *at(e) += more })
		}
	}
	text := func(at func(e *api.Entry) *string) {
		for _, more := range []string{"x", "\x00", "\xFF"} {
			l = append(l, func(e *api.Entry) { *at(e) += more })
		}
	}
	value := func(at func(e *api.Entry) *api.Value) {
		number(func(e *api.Entry) *int { return &at(e).Kind })
		number(func(e *api.Entry) *int { return &at(e).N })
		text(func(e *api.Entry) *string { return &at(e).S })
	}
	number(func(e *api.Entry) *int { return &e.Kind })
	number(func(e *api.Entry) *int { return &e.Server })
	number(func(e *api.Entry) *int { return &e.N })
	l = append(l, func(e *api.Entry) { e.Commands = nil }, func(e *api.Entry) { e.Commands = e.Commands[:2] }, func(e *api.Entry) { e.Commands = e.Commands[1:] }, func(e *api.Entry) { e.Commands = append(e.Commands, api.Command{}) })
	for i := range 3 {
		number(func(e *api.Entry) *int { return &e.Commands[i].Session })
		number(func(e *api.Entry) *int { return &e.Commands[i].Seq })
		l = append(l, func(e *api.Entry) { e.Commands[i].Ops = nil }, func(e *api.Entry) { e.Commands[i].Ops = e.Commands[i].Ops[:2] }, func(e *api.Entry) { e.Commands[i].Ops = append(e.Commands[i].Ops, api.Op{}) })
		for k := range 3 {
			at := func(e *api.Entry) *api.Op { return &e.Commands[i].Ops[k] }
			number(func(e *api.Entry) *int { return &at(e).Kind })
			text(func(e *api.Entry) *string { return &at(e).Table })
			text(func(e *api.Entry) *string { return &at(e).Schema.Name })
			text(func(e *api.Entry) *string { return &at(e).Schema.Columns[1].Name })
			number(func(e *api.Entry) *int { return &at(e).Schema.Columns[1].Kind })
			number(func(e *api.Entry) *int { return &at(e).Schema.Columns[1].Max })
			number(func(e *api.Entry) *int { return &at(e).Schema.Indexes[0].Column })
			l = append(l, func(e *api.Entry) { at(e).Schema.Indexes[0].Unique = !at(e).Schema.Indexes[0].Unique }, func(e *api.Entry) { at(e).Schema.Indexes = nil }, func(e *api.Entry) { at(e).Schema.Columns = at(e).Schema.Columns[:1] }, func(e *api.Entry) { at(e).Row = at(e).Row[:1] }, func(e *api.Entry) { at(e).Row = append(at(e).Row, none()) })
			value(func(e *api.Entry) *api.Value { return &at(e).Row[0] })
			value(func(e *api.Entry) *api.Value { return &at(e).Row[1] })
			value(func(e *api.Entry) *api.Value { return &at(e).Key })
			value(func(e *api.Entry) *api.Value { return &at(e).Lo })
			value(func(e *api.Entry) *api.Value { return &at(e).Hi })
			number(func(e *api.Entry) *int { return &at(e).Column })
			number(func(e *api.Entry) *int { return &at(e).Limit })
		}
	}
	return l
}

// crowded has something in each field, also in those that no kind has together.
func crowded() api.Entry {
	o := api.Op{Kind: 2, Table: "t", Schema: little("t"), Row: values{num(1), word("a")}, Key: num(2), Column: 1, Lo: word("b"), Hi: truth(1), Limit: 3}
	return batch(1, command(1, 2, o, o, o), command(3, 4, o, o, o), command(5, 6, o, o, o))
}

func TestSame(t *testing.T) {
	var l []api.Entry
	for _, turn := range turns() {
		e := copied(crowded())
		turn(&e)
		l = append(l, e)
	}
	if len(l) < 800 {
		t.Fatalf("17.2: only %d entries are held against each other", len(l))
	}
	for i, a := range l {
		if !Same(a, copied(a)) || !Same(copied(a), a) {
			t.Fatalf("17.2: Same of an entry and itself, turned in way %d", i)
		}
		for k := range l {
			// Each against the first ones, and those that are turned alike against each other.
			if k < 40 || i-60 < k && k < i+60 {
				if Same(a, l[k]) != (i == k) {
					t.Fatalf("17.2: Same of entries that are turned in the ways %d and %d", i, k)
				}
			}
		}
	}
}

func TestSameOfSome(t *testing.T) {
	for i, a := range append(some(), api.Entry{}) {
		for k, b := range append(some(), api.Entry{}) {
			if Same(a, b) != (i == k) {
				t.Errorf("17.2: Same of %+v and %+v", a, b)
			}
		}
	}
	if !Same(api.Entry{}, api.Entry{Commands: commands{}}) || !Same(batch(0, command(0, 0)), batch(0, api.Command{Ops: ops{}})) || !Same(batch(0, command(0, 0, insert("t"))), batch(0, command(0, 0, insert("t", values{}...)))) {
		t.Error("17.2: a nil list and an empty one are not the same")
	}
	if Same(api.Entry{Commands: make(commands, 1)}, api.Entry{}) || Same(api.Entry{}, api.Entry{Commands: make(commands, 1)}) {
		t.Error("17.2: a zero command and none are the same")
	}
}
