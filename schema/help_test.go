package schema

import (
	"bytes"
	"math"
	"math/rand"
	"slices"
	"strings"
	"testing"

	"headland/api"
)

type (
	row     = []api.Value
	columns = []api.Column
	indexes = []api.Index
)

func none() api.Value         { return api.Value{} }
func num(n int) api.Value     { return api.Value{Kind: api.Int, N: n} }
func word(s string) api.Value { return api.Value{Kind: api.Text, S: s} }
func truth(n int) api.Value   { return api.Value{Kind: api.Bool, N: n} }

func intColumn(name string) api.Column { return api.Column{Name: name, Kind: api.Int} }
func textColumn(name string, max int) api.Column {
	return api.Column{Name: name, Kind: api.Text, Max: max}
}
func boolColumn(name string) api.Column { return api.Column{Name: name, Kind: api.Bool} }

// little is the table of the chapter.
func little() api.Schema {
	return api.Schema{Name: "t", Columns: columns{intColumn("k"), textColumn("n", 3)}, Indexes: indexes{{Column: 1, Unique: true}}}
}

// middling has each Kind.
func middling() api.Schema {
	return api.Schema{Name: "table", Columns: columns{intColumn("k"), textColumn("n", 3), boolColumn("b")}, Indexes: indexes{{Column: 2, Unique: true}, {Column: 1}}}
}

// greatest has as much of all as a schema may have.
func greatest() api.Schema {
	return api.Schema{
		Name:    "zzzzzzzz",
		Columns: columns{textColumn("abcdefgh", 8), textColumn("bcdefghi", 8), textColumn("stuvwxyz", 8)},
		Indexes: indexes{{Column: 2, Unique: true}, {Column: 1, Unique: true}},
	}
}

// rightSchemas are unlike.
func rightSchemas() []api.Schema {
	l := []api.Schema{little(), middling(), greatest(), {Name: "a", Columns: columns{boolColumn("a")}}, {Name: "t", Columns: columns{intColumn("t")}}}
	for max := 1; max <= api.MaxText; max++ {
		l = append(l, api.Schema{Name: "x", Columns: columns{textColumn("y", max)}})
	}
	three := columns{boolColumn("a"), intColumn("b"), textColumn("c", 1)}
	for _, x := range []indexes{nil, {{Column: 1}}, {{Column: 1, Unique: true}}, {{Column: 2}}, {{Column: 2, Unique: true}}, {{Column: 1}, {Column: 2}}, {{Column: 2}, {Column: 1}}, {{Column: 2}, {Column: 1, Unique: true}}, {{Column: 1, Unique: true}, {Column: 2, Unique: true}}} {
		l = append(l, api.Schema{Name: "x", Columns: three, Indexes: x})
	}
	return l
}

func cloned(s api.Schema) api.Schema {
	s.Columns, s.Indexes = slices.Clone(s.Columns), slices.Clone(s.Indexes)
	return s
}

// turned is a schema in which something is turned.
func turned(s api.Schema, turn func(s *api.Schema)) api.Schema {
	s = cloned(s)
	turn(&s)
	return s
}

// alike holds each field against the other's, by hand.
func alike(a, b api.Schema) bool {
	if a.Name != b.Name || len(a.Columns) != len(b.Columns) || len(a.Indexes) != len(b.Indexes) {
		return false
	}
	for i, c := range a.Columns {
		if d := b.Columns[i]; c.Name != d.Name || c.Kind != d.Kind || c.Max != d.Max {
			return false
		}
	}
	for i, x := range a.Indexes {
		if y := b.Indexes[i]; x.Column != y.Column || x.Unique != y.Unique {
			return false
		}
	}
	return true
}

func alikeRows(a, b row) bool {
	if len(a) != len(b) {
		return false
	}
	for i, v := range a {
		if w := b[i]; v.Kind != w.Kind || v.N != w.N || v.S != w.S {
			return false
		}
	}
	return true
}

// wrongValues are not keys.Right, by what is wrong.
func wrongValues() map[string]api.Value {
	return map[string]api.Value{
		"a Kind below all":         {Kind: -1},
		"a Kind above all":         {Kind: 4},
		"the least Kind":           {Kind: math.MinInt},
		"Int in one byte":          {Kind: 256 + api.Int, N: 1},
		"Text in one byte":         {Kind: 256 + api.Text, S: "a"},
		"Nothing with N":           {N: 1},
		"Nothing with S":           {S: "a"},
		"Int with S":               {Kind: api.Int, N: 1, S: "a"},
		"Int with S that is none":  {Kind: api.Int, S: "\xFF"},
		"Bool with S":              {Kind: api.Bool, N: 1, S: "a"},
		"Bool of 2":                {Kind: api.Bool, N: 2},
		"Bool of -1":               {Kind: api.Bool, N: -1},
		"Text with N":              {Kind: api.Text, N: 1, S: "a"},
		"Text with N alone":        {Kind: api.Text, N: 1},
		"no UTF-8":                 {Kind: api.Text, S: "\xFF"},
		"no UTF-8 at the end":      {Kind: api.Text, S: "a\xC3"},
		"an overlong form":         {Kind: api.Text, S: "\xC1\xA1"},
		"a surrogate":              {Kind: api.Text, S: "\xED\xA0\x80"},
		"a rune above 10FFFF":      {Kind: api.Text, S: "\xF4\x90\x80\x80"},
		"three bytes of four":      {Kind: api.Text, S: "\xF0\x90\x90"},
		"no UTF-8, and much of it": {Kind: api.Text, S: strings.Repeat("\x80", 100)},
	}
}

// runesOfEachSize have 1 to 4 bytes each; the last of each size is the greatest one.
var runesOfEachSize = []string{"a", "\x00", "\x7F", "\u0080", "ä", "\u07FF", "\u0800", "€", "\uFFFD", "\uFFFF", "\U00010000", "𐐀", "\U0010FFFF"}

func edgeNumbers() []int {
	return []int{math.MinInt, math.MinInt + 1, -1 << 32, -129, -128, -1, 0, 1, 63, 64, 127, 128, 255, 256, 1 << 31, 1 << 62, math.MaxInt - 1, math.MaxInt}
}

func someText(r *rand.Rand, most int) string {
	s := ""
	for range r.Intn(most + 1) {
		switch r.Intn(3) {
		case 0:
			s += runesOfEachSize[r.Intn(len(runesOfEachSize))]
		case 1:
			s += string(rune('A' + r.Intn(60)))
		default:
			s += string(rune(0xC0 + r.Intn(0x390)))
		}
	}
	return s
}

// someValue is keys.Right.
func someValue(r *rand.Rand) api.Value {
	switch r.Intn(5) {
	case 0:
		return none()
	case 1:
		return truth(r.Intn(2))
	case 2:
		edges := edgeNumbers()
		return num(edges[r.Intn(len(edges))])
	case 3:
		return num(int(r.Uint64()) >> r.Intn(64))
	}
	return word(someText(r, api.MaxText+1))
}

func someRow(r *rand.Rand) row {
	l := make(row, r.Intn(api.MaxColumns+1))
	for i := range l {
		l[i] = someValue(r)
	}
	return l
}

// someSchema is Right in about half of the cases, and else nearly.
func someSchema(r *rand.Rand) api.Schema {
	names := []string{"a", "b", "c", "abcdefgh", "bbbbbbbb", "zz"}
	wrong := []string{"", "A", "abcdefghi", "a1", "ä", "`", "{", "\xFF"}
	name := func() string {
		if r.Intn(40) == 0 {
			return wrong[r.Intn(len(wrong))]
		}
		return names[r.Intn(len(names))]
	}
	s := api.Schema{Name: name()}
	for range 1 + r.Intn(3) {
		c := api.Column{Name: name(), Kind: 1 + r.Intn(3)}
		if c.Kind == api.Text {
			c.Max = 1 + r.Intn(8)
		}
		if r.Intn(40) == 0 {
			c.Max = -1 + r.Intn(11)
		}
		if r.Intn(40) == 0 {
			c.Kind = -1 + r.Intn(6)
		}
		s.Columns = append(s.Columns, c)
	}
	for range r.Intn(3) {
		x := api.Index{Column: 1, Unique: r.Intn(2) == 0}
		if len(s.Columns) > 1 {
			x.Column = 1 + r.Intn(len(s.Columns)-1)
		}
		if r.Intn(20) == 0 {
			x.Column = -1 + r.Intn(5)
		}
		s.Indexes = append(s.Indexes, x)
	}
	return s
}

// fitting is a row that fits, if the schema is Right.
func fitting(r *rand.Rand, s api.Schema) row {
	var l row
	for i, c := range s.Columns {
		v := api.Value{Kind: c.Kind}
		switch {
		case i > 0 && r.Intn(4) == 0:
			v = none()
		case c.Kind == api.Text:
			v.S = someText(r, max(c.Max, 0))
		case c.Kind == api.Bool:
			v.N = r.Intn(2)
		default:
			v.N = int(r.Uint64()) >> r.Intn(64)
		}
		l = append(l, v)
	}
	return l
}

func mustTell(t *testing.T, got, want api.Errno, why string) {
	t.Helper()
	if got != want {
		t.Errorf("%s: error %d, not %d", why, got, want)
	}
}

func mustEncode(t *testing.T, s api.Schema) []byte {
	t.Helper()
	b, e := Encode(s)
	if e != api.OK {
		t.Fatalf("14.3: Encode of %v: error %d", s, e)
	}
	return b
}

func mustEncodeRow(t *testing.T, l row) []byte {
	t.Helper()
	b, e := EncodeRow(l)
	if e != api.OK {
		t.Fatalf("14.3: EncodeRow of %v: error %d", l, e)
	}
	return b
}

// mustRefuse: Decode tells ErrForm of the bytes, and nothing beside it.
func mustRefuse(t *testing.T, b []byte, why string) {
	t.Helper()
	if s, e := Decode(b); e != api.ErrForm || !alike(s, api.Schema{}) {
		t.Errorf("14.3: Decode, %s, %v: %v, error %d", why, b, s, e)
	}
}

func mustRefuseRow(t *testing.T, b []byte, why string) {
	t.Helper()
	if l, e := DecodeRow(b); e != api.ErrForm || len(l) > 0 {
		t.Errorf("14.3: DecodeRow, %s, %v: %v, error %d", why, b, l, e)
	}
}

// checkBytes: whatever bytes they are, they are refused, or read as a schema that is Right and has just these bytes.
func checkBytes(t *testing.T, b []byte) (is bool) {
	t.Helper()
	s, e := Decode(b)
	if e != api.OK {
		mustRefuse(t, b, "any bytes")
		return false
	}
	if again, e := Encode(s); Right(s) != api.OK || e != api.OK || !bytes.Equal(again, b) {
		t.Fatalf("14.4: %v are read as %v, which is encoded as %v, error %d", b, s, again, e)
	}
	return true
}

func checkRowBytes(t *testing.T, b []byte) (is bool) {
	t.Helper()
	l, e := DecodeRow(b)
	if e != api.OK {
		mustRefuseRow(t, b, "any bytes")
		return false
	}
	if again, e := EncodeRow(l); e != api.OK || !bytes.Equal(again, b) {
		t.Fatalf("14.4: %v are read as %v, which is encoded as %v, error %d", b, l, again, e)
	}
	return true
}

// roomy is a list with spare room behind it that is filled, so that a write into it shows.
func roomy[T any](l []T, spare ...T) []T {
	full := slices.Clip(append(slices.Clone(l), spare...))
	return full[:len(l)]
}

// whole is a copy of a list and its spare room.
func whole[T any](l []T) []T { return slices.Clone(l[:cap(l)]) }

// spoil lays another one over all of a list, and over its spare room.
func spoil[T any](l []T, with T) {
	l = l[:cap(l)]
	for i := range l {
		l[i] = with
	}
}
