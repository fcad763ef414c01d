package schema

import (
	"math/rand"
	"slices"
	"strings"
	"testing"

	"headland/api"
)

func mustBeSame(t *testing.T, a, b api.Schema, want bool, why string) {
	t.Helper()
	if Same(a, b) != want || Same(b, a) != want {
		t.Errorf("14.3: Same, %s: %v, %v; not %v", why, Same(a, b), Same(b, a), want)
	}
}

// TestSame: two that part in one field alone, for each field.
func TestSame(t *testing.T) {
	mustBeSame(t, api.Schema{}, api.Schema{}, true, "zero")
	mustBeSame(t, api.Schema{}, api.Schema{Columns: columns{}, Indexes: indexes{}}, true, "nil and empty")
	mustBeSame(t, turned(little(), func(s *api.Schema) { s.Indexes = nil }), turned(little(), func(s *api.Schema) { s.Indexes = indexes{} }), true, "no index")
	l := rightSchemas()
	for _, s := range wrongSchemas() {
		l = append(l, s)
	}
	for _, s := range l {
		mustBeSame(t, s, cloned(s), true, "a copy")
		parts := func(why string, turn func(s *api.Schema)) { mustBeSame(t, s, turned(s, turn), false, why) }
		parts("Name", func(s *api.Schema) { s.Name += "a" })
		parts("no Name, or one", func(s *api.Schema) { s.Name = strings.Repeat("q", 1-min(1, len(s.Name))) })
		parts("a column more", func(s *api.Schema) { s.Columns = append(s.Columns, api.Column{}) })
		parts("an index more", func(s *api.Schema) { s.Indexes = append(s.Indexes, api.Index{}) })
		for i := range min(3, len(s.Columns)) {
			parts("a column's Name", func(s *api.Schema) { s.Columns[i].Name += "a" })
			parts("a column's Kind", func(s *api.Schema) { s.Columns[i].Kind++ })
			parts("a column's Kind in a byte", func(s *api.Schema) { s.Columns[i].Kind += 256 })
			parts("a column's Max", func(s *api.Schema) { s.Columns[i].Max-- })
			parts("a column less", func(s *api.Schema) { s.Columns = slices.Delete(s.Columns, i, i+1) })
		}
		for i := range min(3, len(s.Indexes)) {
			parts("an index's Column", func(s *api.Schema) { s.Indexes[i].Column-- })
			parts("an index's Unique", func(s *api.Schema) { s.Indexes[i].Unique = !s.Indexes[i].Unique })
			parts("an index less", func(s *api.Schema) { s.Indexes = slices.Delete(s.Indexes, i, i+1) })
		}
	}
	mustBeSame(t, middling(), turned(middling(), func(s *api.Schema) { slices.Reverse(s.Columns) }), false, "columns in another order")
	mustBeSame(t, middling(), turned(middling(), func(s *api.Schema) { slices.Reverse(s.Indexes) }), false, "indexes in another order")
}

func mustBeSameRow(t *testing.T, a, b row, want bool, why string) {
	t.Helper()
	if SameRow(a, b) != want || SameRow(b, a) != want {
		t.Errorf("14.3: SameRow, %s: %v, %v; not %v", why, SameRow(a, b), SameRow(b, a), want)
	}
}

func TestSameRow(t *testing.T) {
	mustBeSameRow(t, nil, nil, true, "none")
	mustBeSameRow(t, nil, row{}, true, "nil and empty")
	mustBeSameRow(t, nil, row{none()}, false, "none and Nothing")
	mustBeSameRow(t, row{num(1)}, row{truth(1)}, false, "two Kinds")
	mustBeSameRow(t, row{word("A")}, row{word("a")}, false, "a capital")
	mustBeSameRow(t, row{num(1), num(2)}, row{num(2), num(1)}, false, "another order")
	l := edgeRows()
	for _, v := range wrongValues() {
		l = append(l, row{num(1), v}, row{v, v, v, v})
	}
	for _, a := range l {
		mustBeSameRow(t, a, slices.Clone(a), true, "a copy")
		mustBeSameRow(t, a, append(slices.Clone(a), none()), false, "a value more")
		for i := range a {
			parts := func(why string, turn func(v *api.Value)) {
				b := slices.Clone(a)
				turn(&b[i])
				mustBeSameRow(t, a, b, false, why)
			}
			parts("Kind", func(v *api.Value) { v.Kind++ })
			parts("Kind in a byte", func(v *api.Value) { v.Kind += 256 })
			parts("N", func(v *api.Value) { v.N ^= 1 })
			parts("the highest bit of N", func(v *api.Value) { v.N ^= -1 << 63 })
			parts("S", func(v *api.Value) { v.S += "\x00" })
			mustBeSameRow(t, a, slices.Delete(slices.Clone(a), i, i+1), false, "a value less")
		}
	}
}

func TestSameFollowsTheFields(t *testing.T) {
	r := rand.New(rand.NewSource(9))
	for range 20000 {
		a, b := someSchema(r), someSchema(r)
		mustBeSame(t, a, b, alike(a, b), "any two")
		c, d := someRow(r), someRow(r)
		mustBeSameRow(t, c, d, alikeRows(c, d), "any two")
	}
}
