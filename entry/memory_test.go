package entry

import (
	"bytes"
	"reflect"
	"slices"
	"testing"

	"headland/api"
)

// roomy is a list with spare room behind it that is filled, so that a write into it shows.
func roomy[T any](l []T, spare ...T) []T {
	return slices.Clip(append(slices.Clone(l), spare...))[:len(l)]
}

func room[T any](l []T) []T { return l[:cap(l)] }

func roomyRow(l values) values { return roomy(l, word("SPARE"), num(77), truth(1)) }

// roomyEntry has the same in lists that have spare room.
func roomyEntry(e api.Entry) api.Entry {
	e.Commands = roomy(e.Commands, command(6, 66), command(77, 77))
	for i, c := range e.Commands {
		l := roomy(c.Ops, insert("spare"), api.Op{Kind: 9})
		for at, o := range l {
			l[at].Row = roomyRow(o.Row)
			l[at].Schema.Columns = roomy(o.Schema.Columns, api.Column{Name: "spare"}, api.Column{Name: "X", Kind: 9})
			l[at].Schema.Indexes = roomy(o.Schema.Indexes, api.Index{Column: 2}, api.Index{Column: 9, Unique: true})
		}
		e.Commands[i].Ops = l
	}
	return e
}

// wide is an entry's copy whose lists have what stands in their spare room, too.
func wide(e api.Entry) api.Entry {
	e.Commands = slices.Clone(room(e.Commands))
	for i, c := range e.Commands {
		l := slices.Clone(room(c.Ops))
		for at, o := range l {
			l[at].Row = slices.Clone(room(o.Row))
			l[at].Schema.Columns, l[at].Schema.Indexes = slices.Clone(room(o.Schema.Columns)), slices.Clone(room(o.Schema.Indexes))
		}
		e.Commands[i].Ops = l
	}
	return e
}

// fill lays another one over all of a list, and over its spare room.
func fill[T any](l []T, with T) {
	for i := range room(l) {
		room(l)[i] = with
	}
}

func spoil(e api.Entry) {
	for _, c := range room(e.Commands) {
		for _, o := range room(c.Ops) {
			fill(o.Row, word("spoilt"))
			fill(o.Schema.Columns, api.Column{Name: "spoilt", Kind: api.Bool})
			fill(o.Schema.Indexes, api.Index{Column: 2, Unique: true})
		}
		fill(c.Ops, remove("spoilt", num(1)))
	}
	fill(e.Commands, command(7, 99))
}

// wrongEntries are not Right, with lists that have something.
func wrongEntries() []api.Entry {
	l := []api.Entry{batch(4, crowded().Commands...), crowded(), batch(0, command(8, 1, manyOps()[:3]...))}
	for _, o := range wrongOps() {
		l = append(l, batch(0, command(0, 1, insert("t", word("A")), o)))
	}
	return l
}

func TestEntriesThatAreHandedIn(t *testing.T) {
	for _, e := range append(some(), wrongEntries()...) {
		own, other := roomyEntry(e), roomyEntry(e)
		was := wide(own)
		b, refused := Encode(own)
		again, _ := Encode(own)
		if Right(own) != (refused == api.OK) || !Same(own, other) || !Same(other, own) {
			t.Fatalf("17.2: %+v with spare room is another entry", e)
		}
		if !reflect.DeepEqual(wide(own), was) || !reflect.DeepEqual(wide(other), was) {
			t.Fatalf("rule 2: %+v was turned", e)
		}
		spoil(own)
		if !bytes.Equal(b, again) {
			t.Fatalf("rule 2: the bytes of %+v are turned when it is", e)
		}
		if len(b) > 0 {
			fill(b, 0xAA)
			if bytes.Contains(room(again), []byte{0xAA, 0xAA}) {
				t.Fatal("rule 2: two Encodes share memory")
			}
		}
	}
}

func TestRepliesThatAreHandedIn(t *testing.T) {
	for _, r := range append(someReplies(), api.Reply{At: 3, Rows: rows{{num(1)}}}, api.Reply{Rows: rows{{num(1)}, {word("\xFF")}, {num(2)}}}) {
		r = copiedReply(r)
		r.Rows = roomy(r.Rows, values{num(9)}, values{word("spare")})
		for i := range room(r.Rows) {
			room(r.Rows)[i] = roomyRow(room(r.Rows)[i])
		}
		deep := func() rows {
			l := slices.Clone(room(r.Rows))
			for i := range l {
				l[i] = slices.Clone(room(l[i]))
			}
			return l
		}
		was := deep()
		b, _ := EncodeReply(r)
		again, _ := EncodeReply(r)
		if !reflect.DeepEqual(deep(), was) {
			t.Fatalf("rule 2: %+v was turned", r)
		}
		for _, row := range room(r.Rows) {
			fill(row, word("spoilt"))
		}
		fill(r.Rows, nil)
		if !bytes.Equal(b, again) {
			t.Fatal("rule 2: a reply's bytes are turned when it is")
		}
		fill(b, 0xAA)
		if bytes.Contains(room(again), []byte{0xAA, 0xAA}) {
			t.Fatal("rule 2: two EncodeReplys share memory")
		}
	}
}

// TestBytesThatAreHandedIn to Decode are not turned and not kept, and what is told is new memory.
func TestBytesThatAreHandedIn(t *testing.T) {
	for _, e := range some() {
		b := roomy(mustEncode(t, e), 1, 2, 3)
		was := slices.Clone(room(b))
		got, again := mustDecode(t, b), mustDecode(t, b)
		Decode(b[:len(b)-1])
		if !bytes.Equal(room(b), was) {
			t.Fatalf("rule 2: Decode of the bytes of %+v turned them", e)
		}
		fill(b, 'x')
		if !alike(got, e) {
			t.Fatalf("rule 2: %+v is turned when its bytes are", e)
		}
		mustHaveItsOwn(t, got)
		spoil(got)
		if !alike(again, e) {
			t.Fatalf("rule 2: two Decodes of %+v share memory", e)
		}
	}
}

// mustHaveItsOwn: no two lists of an entry share memory, their spare room neither.
func mustHaveItsOwn(t *testing.T, e api.Entry) {
	t.Helper()
	mark := 0
	var marked []*int
	own := func(n *int) {
		mark++
		*n = mark
		marked = append(marked, n)
	}
	for i := range room(e.Commands) {
		c := &room(e.Commands)[i]
		own(&c.Seq)
		for k := range room(c.Ops) {
			o := &room(c.Ops)[k]
			own(&o.Kind)
			for at := range room(o.Row) {
				own(&room(o.Row)[at].N)
			}
			for at := range room(o.Schema.Columns) {
				own(&room(o.Schema.Columns)[at].Max)
			}
			for at := range room(o.Schema.Indexes) {
				own(&room(o.Schema.Indexes)[at].Column)
			}
		}
	}
	for i, n := range marked {
		if *n != i+1 {
			t.Fatalf("rule 2: two lists of an entry share memory")
		}
	}
}

func TestReplyBytesThatAreHandedIn(t *testing.T) {
	for _, r := range someReplies() {
		b := roomy(mustEncodeReply(t, r), 1, 2, 3)
		was := slices.Clone(room(b))
		got, again := mustDecodeReply(t, b), mustDecodeReply(t, b)
		DecodeReply(b[:len(b)-1])
		if !bytes.Equal(room(b), was) {
			t.Fatalf("rule 2: DecodeReply of the bytes of %+v turned them", r)
		}
		fill(b, 'x')
		if !alikeReplies(got, r) {
			t.Fatalf("rule 2: %+v is turned when its bytes are", r)
		}
		for i, row := range got.Rows {
			fill(row, num(1000+i))
			for k, other := range got.Rows {
				if i != k && slices.Contains(room(other), num(1000+i)) {
					t.Fatal("rule 2: two rows of one reply share memory")
				}
			}
		}
		fill(got.Rows, values{word("spoilt")})
		if !alikeReplies(again, r) {
			t.Fatalf("rule 2: two DecodeReplys of %+v share memory", r)
		}
	}
}
