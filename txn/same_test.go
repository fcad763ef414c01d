package txn

import (
	"math"
	"slices"
	"testing"

	"headland/api"
)

// unlike are replies of which no two are the same: one field alone is turned of the first.
func unlike() []api.Reply {
	l := []api.Reply{{}, {Err: api.ErrArg}, {Err: api.ErrNone}, {Err: -1}, {Err: math.MinInt}, {Err: 1 << 32}, {At: 1}, {At: 2}, {At: -1}, {At: 1 << 32}, {Err: api.ErrNone, At: 1}, {Rows: rows{nil}}, {Rows: rows{nil, nil}}}
	row := values{num(1), word("a"), truth(1)}
	for _, told := range []rows{{row}, {row, row}, {row, row[:2]}, {row[:2], row}, {row[1:]}, {row[:1]}, {row, nil}, {nil, row}, {{none(), none(), none()}}} {
		l = append(l, api.Reply{Rows: told})
	}
	for place := range row {
		for _, turn := range []func(v *api.Value){func(v *api.Value) { v.Kind = -7 }, func(v *api.Value) { v.N += 5 }, func(v *api.Value) { v.N -= 1 << 32 }, func(v *api.Value) { v.S += "x" }, func(v *api.Value) { v.S += "\xFF" }} {
			other := slices.Clone(row)
			turn(&other[place])
			l = append(l, api.Reply{Rows: rows{other}}, api.Reply{Rows: rows{row, other}}, api.Reply{Rows: rows{other, row}}, api.Reply{Err: api.ErrRow, At: 1, Rows: rows{other}})
		}
	}
	return l
}

func TestSame(t *testing.T) {
	for i, a := range unlike() {
		for j, b := range unlike() {
			if Same(a, b) != (i == j) {
				t.Errorf("16.3: Same of %s and %s is not %v", spelled(a), spelled(b), i == j)
			}
		}
	}
	for _, l := range []rows{nil, {}, make(rows, 0, 4)} {
		if !Same(api.Reply{Rows: l}, api.Reply{}) || !Same(api.Reply{At: 1}, api.Reply{At: 1, Rows: l}) {
			t.Error("16.3: no Rows and nil are not the same")
		}
		if Same(api.Reply{Rows: rows{{none()}}}, api.Reply{Rows: l}) {
			t.Error("16.3: no Rows and a row are the same")
		}
	}
	if !Same(api.Reply{Rows: rows{nil, {num(1)}}}, api.Reply{Rows: rows{{}, roomyRow(num(1))}}) {
		t.Error("16.3: rows without values are not the same, or spare room is looked at")
	}
}

// TestSameOfWhatIsTold: what was told once is told again.
func TestSameOfWhatIsTold(t *testing.T) {
	d, _, _ := filled(t)
	var told []api.Reply
	for _, l := range []ops{nil, {all("t")}, {all("texts")}, {ask("t", num(1))}, {ask("t", num(1)), ask("t", num(2))}, {ask("t", num(99))}, {ask("t", num(1)), ask("t", num(99))}, {scan("t", 2, none(), none(), 1)}} {
		a, _ := Run(d, l, 1)
		b, _ := Run(d, l, 1)
		if !Same(a, b) {
			t.Errorf("16.3: what was told twice is not the same: %s and %s", spelled(a), spelled(b))
		}
		for _, other := range told {
			if Same(a, other) || Same(other, a) {
				t.Errorf("16.3: %s and %s are the same", spelled(a), spelled(other))
			}
		}
		told = append(told, a)
	}
}
