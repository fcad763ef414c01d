package schema

import (
	"bytes"
	"slices"
	"testing"

	"headland/api"
)

// roomySchema is a schema whose lists have spare room that is filled.
func roomySchema(s api.Schema) api.Schema {
	s.Columns = roomy(s.Columns, intColumn("spare"), api.Column{Name: "X", Kind: 9, Max: 9})
	s.Indexes = roomy(s.Indexes, api.Index{Column: 2}, api.Index{Column: 9, Unique: true})
	return s
}

func roomyRow(l row) row { return roomy(l, word("SPARE"), num(77), truth(1)) }

// wholeSchema is a copy with the spare room as a part of it.
func wholeSchema(s api.Schema) api.Schema {
	s.Columns, s.Indexes = whole(s.Columns), whole(s.Indexes)
	return s
}

func TestWhatIsHandedInStays(t *testing.T) {
	schemas := []api.Schema{little(), middling(), greatest(), {}, {Name: "t"}, {Name: "T", Columns: make(columns, 5), Indexes: make(indexes, 5)}}
	rows := []row{nil, {num(1), word("ÄÖ")}, {num(1), word("ÄÖ"), truth(1)}, {word("A"), word("B"), word("C")}, {word("A\xFF"), truth(2)}, {num(1), word("A"), word("B"), word("C"), word("D")}}
	for _, s := range schemas {
		for _, l := range rows {
			s, l := roomySchema(s), roomyRow(l)
			other, second := roomySchema(s), roomyRow(l)
			schemaWas, rowWas := wholeSchema(s), whole(l)
			otherWas, secondWas := wholeSchema(other), whole(second)
			Right(s)
			Fits(s, l)
			Fold(s, l)
			Encode(s)
			EncodeRow(l)
			Same(s, other)
			SameRow(l, second)
			if !alike(wholeSchema(s), schemaWas) || !alikeRows(whole(l), rowWas) || !alike(wholeSchema(other), otherWas) || !alikeRows(whole(second), secondWas) {
				t.Errorf("rule 2: what was handed in was turned: %v, %v", wholeSchema(s), whole(l))
			}
		}
	}
	for _, b := range [][]byte{nil, {1}, {0}, mustEncode(t, little()), mustEncode(t, greatest()), mustEncode(t, little())[:7], mustEncodeRow(t, row{num(1), word("Ä")}), mustEncodeRow(t, row{num(1), word("Ä")})[:9]} {
		b := roomy(b, 0, 1, 2, 3, 255)
		was := whole(b)
		Decode(b)
		DecodeRow(b)
		if !bytes.Equal(whole(b), was) {
			t.Errorf("rule 2: bytes that were handed in were turned: %v, was %v", whole(b), was)
		}
	}
}

func TestFoldIsNewMemory(t *testing.T) {
	for _, l := range []row{{num(1), word("ÄÖ")}, {num(1), none(), truth(1)}, {word("a"), word("b"), word("C")}, {word("a")}} {
		given := roomyRow(l)
		was := whole(given)
		want := Fold(little(), l)
		small := Fold(little(), given)
		again := Fold(little(), given)
		spoil(given, num(5))
		if !alikeRows(small, want) {
			t.Errorf("rule 2: a row that is turned behind a Fold turns what it told: %v", small)
		}
		copy(given[:cap(given)], was)
		spoil(small, num(6))
		if !alikeRows(whole(given), was) {
			t.Errorf("rule 2: what Fold told is turned, and with it what was handed in: %v", whole(given))
		}
		if !alikeRows(again, want) || !alikeRows(Fold(little(), given), want) {
			t.Errorf("rule 2: two answers of Fold share memory: %v", again)
		}
	}
}

func TestEncodeIsNewMemory(t *testing.T) {
	s, l := roomySchema(middling()), roomyRow(row{num(1), word("Ä"), truth(1)})
	ofSchema, ofRow := mustEncode(t, s), mustEncodeRow(t, l)
	schemaWas, rowWas := slices.Clone(ofSchema), slices.Clone(ofRow)
	spoil(s.Columns, boolColumn("q"))
	spoil(s.Indexes, api.Index{Column: 7})
	spoil(l, num(5))
	if !bytes.Equal(ofSchema, schemaWas) || !bytes.Equal(ofRow, rowWas) {
		t.Errorf("rule 2: what is turned behind an Encode turns its bytes: %v, %v", ofSchema, ofRow)
	}
	spoil(ofSchema, 9)
	spoil(ofRow, 9)
	if again := mustEncode(t, middling()); !bytes.Equal(again, schemaWas) {
		t.Errorf("rule 2: what Encode told is kept: %v", again)
	}
	if again := mustEncodeRow(t, row{num(1), word("Ä"), truth(1)}); !bytes.Equal(again, rowWas) {
		t.Errorf("rule 2: what EncodeRow told is kept: %v", again)
	}
}

func TestDecodeIsNewMemory(t *testing.T) {
	for _, want := range rightSchemas() {
		b := roomy(mustEncode(t, want), 1, 2, 3)
		was := whole(b)
		first, _ := Decode(b)
		second, _ := Decode(b)
		spoil(first.Columns, boolColumn("q"))
		if !alike(api.Schema{Indexes: first.Indexes}, api.Schema{Indexes: want.Indexes}) {
			t.Errorf("rule 2: two lists of one answer share memory: %v", first.Indexes)
		}
		spoil(first.Indexes, api.Index{Column: 7})
		if !alike(second, want) || !bytes.Equal(whole(b), was) {
			t.Errorf("rule 2: what Decode told is turned, and with it %v, or the bytes %v", second, whole(b))
		}
		spoil(b, 'x')
		if !alike(second, want) {
			t.Errorf("rule 2: bytes that are turned behind a Decode turn what it told: %v", second)
		}
		if third, _ := Decode(was[:len(b)]); !alike(third, want) {
			t.Errorf("rule 2: what Decode told is kept: %v", third)
		}
	}
}

func TestDecodeRowIsNewMemory(t *testing.T) {
	for _, want := range edgeRows() {
		b := roomy(mustEncodeRow(t, want), 1, 2, 3)
		was := whole(b)
		first, _ := DecodeRow(b)
		second, _ := DecodeRow(b)
		spoil(first, word("q"))
		if !alikeRows(second, want) || !bytes.Equal(whole(b), was) {
			t.Errorf("rule 2: what DecodeRow told is turned, and with it %v, or the bytes %v", second, whole(b))
		}
		spoil(b, 'x')
		if !alikeRows(second, want) {
			t.Errorf("rule 2: bytes that are turned behind a DecodeRow turn what it told: %v", second)
		}
		if third, _ := DecodeRow(was[:len(b)]); !alikeRows(third, want) {
			t.Errorf("rule 2: what DecodeRow told is kept: %v", third)
		}
	}
}
