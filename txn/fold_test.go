package txn

import (
	"testing"

	"headland/api"
	"headland/keys"
)

// greatAndSmall are texts, and what they are folded to.
func greatAndSmall() [][2]string {
	return [][2]string{{"A", "a"}, {"Z", "z"}, {"AbC", "abc"}, {"ÄÖÜ", "äöü"}, {"ÞÀ", "þà"}, {"ΑΣΩ", "ασω"}, {"АЯЖ", "аяж"}, {"×Ж", "×ж"}, {"@[", "@["}, {"Ё", "Ё"}, {"ẞ", "ẞ"}, {"", ""}, {"ABCDEFGH", "abcdefgh"}}
}

func mustTellRows(t *testing.T, d api.Reply, want ...values) {
	t.Helper()
	if spelled(d) != spelled(api.Reply{Rows: want}) {
		t.Fatalf("16.2: %s, not %s", spelled(d), spelled(api.Reply{Rows: want}))
	}
}

// TestFoldedRows: with the version 2 what is laid down is folded, with the version 1 it is not.
func TestFoldedRows(t *testing.T) {
	for _, x := range greatAndSmall() {
		great, small := x[0], x[1]
		if keys.Fold(great) != small {
			t.Fatalf("2.4: Fold of %q is not %q", great, small)
		}
		for version, want := range map[int]string{1: great, 2: small} {
			d := newDraft(t, create(texts()))
			row := values{word(want), truth(1), word(want)}
			r, e := Run(d, ops{insert("texts", word(great), truth(1), word(great)), all("texts")}, version)
			mustTell(t, e, api.OK, "16.2: Run")
			mustTellRows(t, r, row)
			mustReply(t, d, ops{ask("texts", word(want)), scan("texts", 2, word(want), none(), 1)}, 1, api.Reply{Rows: rows{row, row}}, "what an Insert laid down")
			r, e = Run(d, ops{update("texts", word(great), none(), none()), all("texts"), update("texts", word(great), truth(0), word(great))}, version)
			mustTell(t, e, api.OK, "16.2: Run")
			mustTellRows(t, r, values{word(want), none(), none()})
			mustReply(t, d, ops{ask("texts", word(want))}, 1, api.Reply{Rows: rows{{word(want), truth(0), word(want)}}}, "what an Update laid down")
		}
	}
}

// TestFoldedKeysAndBounds: with the version 2 each Key, Lo and Hi is folded; what is told is told as it stands.
func TestFoldedKeysAndBounds(t *testing.T) {
	d := newDraft(t, create(texts()), insert("texts", word("A"), none(), word("Ä")), insert("texts", word("a"), none(), word("ä")), insert("texts", word("b"), none(), word("B")), insert("texts", word("Ж"), none(), word("ж")))
	A, a, b, J := values{word("A"), none(), word("Ä")}, values{word("a"), none(), word("ä")}, values{word("b"), none(), word("B")}, values{word("Ж"), none(), word("ж")}
	for _, x := range []struct {
		o        api.Op
		one, two rows
	}{
		{ask("texts", word("A")), rows{A}, rows{a}},
		{ask("texts", word("a")), rows{a}, rows{a}},
		{all("texts"), rows{A, a, b, J}, rows{A, a, b, J}},
		{scan("texts", 0, word("A"), none(), 2), rows{A, a}, rows{a, b}},
		{scan("texts", 0, word("B"), none(), 1), rows{a}, rows{b}},
		{scan("texts", 0, none(), word("B"), 4), rows{A}, rows{A, a}},
		{scan("texts", 0, none(), word("Ж"), 4), rows{A, a, b}, rows{A, a, b, J}},
		{scan("texts", 0, word("A"), word("B"), 4), rows{A}, rows{a}},
		{scan("texts", 2, word("Ä"), none(), 4), rows{A, a, J}, rows{a, J}},
		{scan("texts", 2, none(), word("Ä"), 4), rows{b}, rows{b, A}},
		{scan("texts", 2, word("Ä"), word("Ж"), 4), rows{A, a}, rows{a}},
	} {
		mustReply(t, d, ops{x.o}, 1, api.Reply{Rows: x.one}, "with the version 1")
		mustReply(t, d, ops{x.o}, 2, api.Reply{Rows: x.two}, "with the version 2")
		mustReply(t, d, ops{x.o, x.o}, 2, api.Reply{Rows: append(x.two, x.two...)}, "with the version 2, twice")
	}
	mustReply(t, d, ops{ask("texts", word("B"))}, 1, api.Reply{Err: api.ErrNone}, "with the version 1")
	mustReply(t, d, ops{ask("texts", word("B"))}, 2, api.Reply{Rows: rows{b}}, "with the version 2")
	mustReply(t, d, ops{ask("texts", word("Ж"))}, 2, api.Reply{Err: api.ErrNone}, "of a row whose key was not folded")
	mustReply(t, d, ops{remove("texts", word("B"))}, 1, api.Reply{Err: api.ErrNone}, "with the version 1")
	mustReply(t, d, ops{remove("texts", word("Ж"))}, 2, api.Reply{Err: api.ErrNone}, "of a row whose key was not folded")
	mustReply(t, d, ops{remove("texts", word("A")), all("texts"), remove("texts", word("B"))}, 2, api.Reply{Rows: rows{A, b, J}}, "with the version 2")
	mustReply(t, d, ops{remove("texts", word("A")), all("texts")}, 1, api.Reply{Rows: rows{J}}, "with the version 1")
}

// TestFoldedRefusals: what is refused hangs on what is folded.
func TestFoldedRefusals(t *testing.T) {
	d := newDraft(t, create(little("t")), create(texts()), insert("t", num(1), word("äb")), insert("texts", word("ж"), none(), none()))
	for _, x := range []struct {
		o   api.Op
		two api.Errno
	}{
		{insert("t", num(2), word("ÄB")), api.ErrUnique},
		{insert("texts", word("Ж"), none(), none()), api.ErrKey},
	} {
		mustReply(t, d, ops{x.o}, 2, api.Reply{Err: x.two}, "with the version 2")
		mustReply(t, d, ops{insert("texts", word("Q"), none(), none()), all("t"), x.o}, 2, api.Reply{Err: x.two, At: 2}, "with the version 2")
		mustReply(t, d, ops{x.o}, 1, api.Reply{}, "with the version 1")
	}
	mustReply(t, d, ops{update("t", num(2), word("äB"))}, 2, api.Reply{Err: api.ErrUnique}, "Update with the version 2")
	mustReply(t, d, ops{update("texts", word("Я"), none(), none())}, 2, api.Reply{Err: api.ErrNone}, "Update with the version 2")
	mustReply(t, d, ops{insert("t", num(3), word("ABCD"))}, 2, api.Reply{Err: api.ErrRow}, "a text of more runes than Max")
}

// TestWhatIsNotFolded: great letters of a Schema and of a Table are refused as they are, in both versions; so is a text that is no UTF-8, whose Fold is one.
func TestWhatIsNotFolded(t *testing.T) {
	d, _, _ := filled(t)
	column := create(little("u"))
	column.Schema.Columns[0].Name = "K"
	wrong := ops{create(little("U")), column, insert("T", num(99), none()), update("T", num(1), none()), remove("T", num(1)), ask("T", num(1)), all("T"), insert("texts", word("\xFF"), none(), none()), ask("texts", word("\xFF")), scan("texts", 0, word("\xFF"), none(), 1), scan("texts", 0, none(), word("\xFF"), 1)}
	for version := 1; version <= 2; version++ {
		for _, o := range wrong {
			mustRefuse(t, d, ops{o}, version, api.ErrArg, "what must not be folded")
			mustRefuse(t, d, ops{insert("t", num(99), none()), o}, version, api.ErrArg, "what must not be folded")
		}
	}
}
