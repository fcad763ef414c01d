package txn

import (
	"reflect"
	"slices"
	"testing"

	"headland/api"
)

// roomy is a list with spare room behind it that is filled, so that a write into it shows.
func roomy[T any](l []T, spare ...T) []T {
	return slices.Clip(append(slices.Clone(l), spare...))[:len(l)]
}

func room[T any](l []T) []T { return l[:cap(l)] }

func roomyRow(l ...api.Value) values { return roomy(l, word("SPARE"), num(77), truth(1)) }

// roomyOps have spare room in each list.
func roomyOps(l ...api.Op) ops {
	l = slices.Clone(l)
	for i, o := range l {
		if len(o.Row) > 0 {
			l[i].Row = roomyRow(o.Row...)
		}
		if o.Kind == api.Create {
			l[i].Schema.Columns = roomy(o.Schema.Columns, api.Column{Name: "spare"}, api.Column{Name: "X", Kind: 9})
			l[i].Schema.Indexes = roomy(o.Schema.Indexes, api.Index{Column: 2}, api.Index{Column: 9, Unique: true})
		}
	}
	return roomy(l, all("spare"), api.Op{Kind: 9})
}

// copied has the same in new memory, the spare room as what is there.
func copied(l ops) ops {
	l = slices.Clone(room(l))
	for i, o := range l {
		l[i].Row = slices.Clone(room(o.Row))
		l[i].Schema.Columns, l[i].Schema.Indexes = slices.Clone(room(o.Schema.Columns)), slices.Clone(room(o.Schema.Indexes))
	}
	return l
}

// fill lays another one over all of a list, and over its spare room.
func fill[T any](l []T, with T) {
	for i := range room(l) {
		room(l)[i] = with
	}
}

func spoil(l ops) {
	for _, o := range room(l) {
		fill(o.Row, word("spoilt"))
		fill(o.Schema.Columns, api.Column{Name: "spoilt", Kind: api.Bool})
		fill(o.Schema.Indexes, api.Index{Column: 2, Unique: true})
	}
	fill(l, remove("t", num(1)))
}

// TestWhatIsHandedIn is not changed, by folding neither, and not kept.
func TestWhatIsHandedIn(t *testing.T) {
	d, _, _ := filled(t)
	great := little("u")
	for _, l := range []ops{
		{create(great), insert("u", num(1), word("ÄB")), update("u", num(1), word("Ж"))},
		{insert("texts", word("NEW"), truth(1), word("AGAIN")), ask("texts", word("NEW")), remove("texts", word("NEW"))},
		{scan("texts", 2, word("A"), word("Z"), 4), ask("texts", word("A")), all("t")},
		{insert("texts", word("Q"), none(), none()), insert("texts", word("Q"), none(), none())},
		{create(little("T")), insert("t", word("\xFF"))},
		{insert("t", num(1), num(2), num(3), word("FOUR")), all("T")},
		{},
	} {
		for version := range 4 {
			own := roomyOps(l...)
			was := copied(own)
			Right(own)
			Reads(own)
			Run(d, own, version)
			Run(nil, own, version)
			if !reflect.DeepEqual(copied(own), was) {
				t.Fatalf("rule 2: Run of %v with the version %d turned what was handed in", l, version)
			}
			told := whole(t, d)
			spoil(own)
			if whole(t, d) != told {
				t.Fatalf("rule 2: %v, turned behind a Run with the version %d, turns what it did", l, version)
			}
			d.Back(3)
		}
	}
}

// TestRepliesAreNewMemory: what was told may be turned, and nothing else is.
func TestRepliesAreNewMemory(t *testing.T) {
	d, _, _ := filled(t)
	told := whole(t, d)
	for _, l := range []ops{{ask("t", num(1))}, {all("t")}, {all("t"), ask("texts", word("a")), scan("t", 1, none(), none(), 4)}, {ask("t", num(1)), ask("t", num(1)), ask("t", num(1))}} {
		for version := 1; version <= 2; version++ {
			r, _ := Run(d, l, version)
			again, _ := Run(d, l, version)
			want := spelled(again)
			if len(r.Rows) < len(l) {
				t.Fatalf("16.2: Run of %v: %s", l, spelled(r))
			}
			for i, row := range r.Rows {
				fill(row, num(1000+i))
				for j, other := range r.Rows {
					if i != j && slices.Contains(room(other), num(1000+i)) {
						t.Fatal("rule 2: two rows of one Reply share memory")
					}
				}
			}
			fill(r.Rows, values{word("spoilt")})
			if spelled(again) != want {
				t.Fatal("rule 2: two Replies share memory")
			}
			if whole(t, d) != told {
				t.Fatal("rule 2: a Reply that is turned turns the draft")
			}
		}
	}
}

// TestAReplyStays: what was told is not turned by what is done later, in the same Run or behind it.
func TestAReplyStays(t *testing.T) {
	d, _, _ := filled(t)
	l := ops{ask("t", num(1)), update("t", num(1), word("z")), scan("t", 0, none(), none(), 2)}
	r, e := Run(d, l, 1)
	mustTell(t, e, api.OK, "16.2: Run")
	told := spelled(r)
	if want := spelled(api.Reply{Rows: rows{{num(1), word("a")}, {num(1), word("z")}, {num(2), word("b")}}}); told != want {
		t.Fatalf("16.2: %s, not %s", told, want)
	}
	mustDo(t, d, remove("t", num(1)), update("t", num(2), none()), create(little("u")))
	mustReply(t, d, ops{ask("t", num(1))}, 1, api.Reply{Err: api.ErrNone}, "what is gone")
	mustTell(t, d.Back(0), api.OK, "13.2: Back")
	if spelled(r) != told {
		t.Fatalf("rule 2: a Reply was turned: %s, not %s", spelled(r), told)
	}
}
