package schema

import (
	"bytes"
	"math"
	"math/rand"
	"slices"
	"testing"

	"headland/api"
	"headland/wire"
)

func mustComeBack(t *testing.T, s api.Schema) {
	t.Helper()
	b := mustEncode(t, s)
	if len(b) > 80 {
		t.Fatalf("14.3: %v has %d bytes", s, len(b))
	}
	if again, e := Decode(b); e != api.OK || !alike(again, s) {
		t.Fatalf("14.4: Decode of Encode of %v: %v, error %d", s, again, e)
	}
	if again := mustEncode(t, s); !bytes.Equal(again, b) {
		t.Fatalf("rule 7: %v is encoded as %v and %v", s, b, again)
	}
	checkBytes(t, b)
}

func TestSchemasComeBack(t *testing.T) {
	for _, s := range rightSchemas() {
		mustComeBack(t, s)
	}
	mustComeBack(t, turned(little(), func(s *api.Schema) { s.Indexes = indexes{} }))
	r := rand.New(rand.NewSource(4))
	for range 20000 {
		if s := someSchema(r); plainRight(s) {
			mustComeBack(t, s)
		}
	}
}

// TestUnlikeSchemas: no schema's bytes begin another one's.
func TestUnlikeSchemas(t *testing.T) {
	l := rightSchemas()
	for i, a := range l {
		for j, b := range l {
			if i != j && bytes.HasPrefix(mustEncode(t, b), mustEncode(t, a)) {
				t.Errorf("14.4: the bytes of %v begin those of %v", a, b)
			}
		}
	}
}

func TestCutSchemas(t *testing.T) {
	mustRefuse(t, nil, "no bytes")
	mustRefuse(t, []byte{}, "no bytes")
	for _, s := range rightSchemas() {
		b := mustEncode(t, s)
		for end := range b {
			mustRefuse(t, b[:end], "a beginning")
			mustRefuse(t, b[:end:end], "a beginning")
			mustRefuse(t, b[end+1:], "an end")
		}
		for more := range 256 {
			mustRefuse(t, append(slices.Clone(b), byte(more)), "a byte more")
		}
		mustRefuse(t, append(slices.Clone(b), b...), "twice")
		mustRefuse(t, append([]byte{0}, b...), "a byte ahead")
	}
}

// TestTurnedSchemas: each byte turned to each other one.
func TestTurnedSchemas(t *testing.T) {
	for _, s := range rightSchemas() {
		b := mustEncode(t, s)
		for at, c := range b {
			for by := 1; by < 256; by++ {
				b[at] = c ^ byte(by)
				checkBytes(t, b)
			}
			b[at] = c
			checkBytes(t, append(slices.Clone(b[:at]), b[at+1:]...))
			checkBytes(t, slices.Insert(slices.Clone(b), at, c))
			checkBytes(t, slices.Insert(slices.Clone(b), at, 0))
		}
	}
}

// laid is parts, numbers and texts, as wire has them.
func laid(parts ...any) []byte {
	var b []byte
	for _, p := range parts {
		switch p := p.(type) {
		case int:
			b = append(b, wire.Uint(p)...)
		case string:
			b = append(b, wire.Bytes([]byte(p))...)
		case []byte:
			b = append(b, p...)
		}
	}
	return b
}

func TestLaidSchemas(t *testing.T) {
	b := mustEncode(t, middling())
	if want := laid("table", 3, "k", 1, 0, "n", 2, 3, "b", 3, 0, 2, 2, 1, 1, 0); !bytes.Equal(b, want) {
		t.Fatalf("14.3: Encode: %v, not %v", b, want)
	}
	wide := func(n int) []byte { return []byte{128, byte(n)} }
	for why, b := range map[string][]byte{
		"no name":                          laid("", 1, "k", 1, 0, 0),
		"a capital":                        laid("T", 1, "k", 1, 0, 0),
		"a name of nine":                   laid("abcdefghi", 1, "k", 1, 0, 0),
		"a name that is no text":           laid("\xFF", 1, "k", 1, 0, 0),
		"a long name":                      laid(string(bytes.Repeat([]byte("a"), 300)), 1, "k", 1, 0, 0),
		"a name's length, in two":          laid(wide(1), []byte("t"), 1, "k", 1, 0, 0),
		"a name's length, far":             laid(math.MaxInt, []byte("t"), 1, "k", 1, 0, 0),
		"no column":                        laid("t", 0, 0),
		"four columns":                     laid("t", 4, "a", 1, 0, "b", 1, 0, "c", 1, 0, "d", 1, 0, 0),
		"three of four columns":            laid("t", 4, "a", 1, 0, "b", 1, 0, "c", 1, 0, 0),
		"columns without end":              laid("t", math.MaxInt, "a", 1, 0, 0),
		"how many columns, in two":         laid("t", wide(1), "k", 1, 0, 0),
		"how many columns, of no form":     laid("t", bytes.Repeat([]byte{255}, 12)),
		"a column without a name":          laid("t", 1, "", 1, 0, 0),
		"a column's capital":               laid("t", 1, "K", 1, 0, 0),
		"a column's name of nine":          laid("t", 1, "abcdefghi", 1, 0, 0),
		"a column's name's length, in two": laid("t", 1, wide(1), []byte("k"), 1, 0, 0),
		"two columns with one name":        laid("t", 2, "k", 1, 0, "k", 1, 0, 0),
		"the Kind Nothing":                 laid("t", 1, "k", 0, 0, 0),
		"the Kind 4":                       laid("t", 1, "k", 4, 0, 0),
		"a Kind far above":                 laid("t", 1, "k", math.MaxInt, 0, 0),
		"a Kind of 257":                    laid("t", 1, "k", 257, 0, 0),
		"a Kind, in two":                   laid("t", 1, "k", wide(1), 0, 0),
		"the Max 1 of an Int":              laid("t", 1, "k", 1, 1, 0),
		"the Max 1 of a Bool":              laid("t", 1, "k", 3, 1, 0),
		"the Max 0 of a Text":              laid("t", 1, "k", 2, 0, 0),
		"the Max 9 of a Text":              laid("t", 1, "k", 2, 9, 0),
		"a Max of 264":                     laid("t", 1, "k", 2, 264, 0),
		"a Max, in two":                    laid("t", 1, "k", 2, wide(3), 0),
		"a Max of 0, in two":               laid("t", 1, "k", 1, wide(0), 0),
		"how many indexes, in two":         laid("t", 1, "k", 1, 0, wide(0)),
		"an index of one column, over 0":   laid("t", 1, "k", 1, 0, 1, 0, 0),
		"an index of one column, over 1":   laid("t", 1, "k", 1, 0, 1, 1, 0),
		"an index over 0":                  laid("t", 2, "k", 1, 0, "n", 2, 3, 1, 0, 1),
		"an index over 2 of two":           laid("t", 2, "k", 1, 0, "n", 2, 3, 1, 2, 1),
		"an index over 257":                laid("t", 2, "k", 1, 0, "n", 2, 3, 1, 257, 1),
		"an index's column, in two":        laid("t", 2, "k", 1, 0, "n", 2, 3, 1, wide(1), 1),
		"a Unique of 2":                    laid("t", 2, "k", 1, 0, "n", 2, 3, 1, 1, 2),
		"a Unique of 257":                  laid("t", 2, "k", 1, 0, "n", 2, 3, 1, 1, 257),
		"a Unique, in two":                 laid("t", 2, "k", 1, 0, "n", 2, 3, 1, 1, wide(1)),
		"a Unique of 0, in two":            laid("t", 2, "k", 1, 0, "n", 2, 3, 1, 1, wide(0)),
		"two indexes over 1":               laid("t", 2, "k", 1, 0, "n", 2, 3, 2, 1, 0, 1, 1),
		"three indexes":                    laid("t", 3, "k", 1, 0, "n", 2, 3, "b", 3, 0, 3, 1, 0, 2, 0, 0, 0),
		"four indexes":                     laid("t", 3, "k", 1, 0, "n", 2, 3, "b", 3, 0, 4, 1, 0, 2, 0, 1, 0, 2, 0),
		"two of four indexes":              laid("t", 3, "k", 1, 0, "n", 2, 3, "b", 3, 0, 4, 1, 0, 2, 0),
		"indexes without end":              laid("t", 3, "k", 1, 0, "n", 2, 3, "b", 3, 0, math.MaxInt, 1, 0, 2, 0),
		"a row":                            mustEncodeRow(t, row{num(1), word("a")}),
		"no row":                           mustEncodeRow(t, nil),
		"bytes 0":                          make([]byte, 20),
		"bytes 1":                          bytes.Repeat([]byte{1}, 20),
		"bytes 255":                        bytes.Repeat([]byte{255}, 80),
		"spare room is not read":           roomy(laid("t", 1, "k", 1, 0), 0),
	} {
		mustRefuse(t, b, why)
	}
}

// TestAnyBytesOfSchemas: what is decoded is encoded as the same bytes, whatever bytes they are.
func TestAnyBytesOfSchemas(t *testing.T) {
	for i := range 1 << 16 {
		checkBytes(t, []byte{byte(i >> 8), byte(i)})
		checkBytes(t, laid("t", 1, "k", []byte{byte(i >> 8), byte(i)}, 0))
		checkBytes(t, laid("t", 2, "k", 1, 0, "n", 2, 3, 1, []byte{byte(i >> 8), byte(i)}))
		checkBytes(t, laid("t", []byte{byte(i >> 8), byte(i)}, []byte("k"), 1, 0, 0))
	}
	r := rand.New(rand.NewSource(5))
	right := 0
	for range 100000 {
		parts := []any{[]string{"t", "ab", "zzzzzzzz", ""}[r.Intn(4)]}
		count := r.Intn(4)
		parts = append(parts, count+r.Intn(8)/7)
		for range count {
			kind := r.Intn(5)
			parts = append(parts, string(rune('a'+r.Intn(6))), kind, []int{0, 0, 1 + r.Intn(9), r.Intn(2), 0}[kind])
		}
		count = r.Intn(4)
		parts = append(parts, count+r.Intn(8)/7)
		for range count {
			parts = append(parts, r.Intn(3), r.Intn(3))
		}
		if checkBytes(t, laid(parts...)) {
			right++
		}
		b := make([]byte, r.Intn(90))
		r.Read(b)
		checkBytes(t, b)
		for i := range b {
			b[i] &= 3
		}
		checkBytes(t, b)
	}
	if right < 2000 {
		t.Errorf("14.4: too few schemas: %d", right)
	}
}
