package entry

import (
	"math"
	"math/rand"
	"reflect"
	"slices"
	"strings"
	"testing"

	"headland/api"
)

type (
	commands = []api.Command
	ops      = []api.Op
	values   = []api.Value
	rows     = [][]api.Value
)

func none() api.Value         { return api.Value{} }
func num(n int) api.Value     { return api.Value{Kind: api.Int, N: n} }
func word(s string) api.Value { return api.Value{Kind: api.Text, S: s} }
func truth(n int) api.Value   { return api.Value{Kind: api.Bool, N: n} }

// longest is a text of as many runes and bytes as one may have.
func longest() api.Value { return word(strings.Repeat("\U0010FFFF", 8)) }

// little is the table of the document's examples.
func little(name string) api.Schema {
	return api.Schema{Name: name, Columns: []api.Column{{Name: "k", Kind: api.Int}, {Name: "n", Kind: api.Text, Max: 3}}, Indexes: []api.Index{{Column: 1, Unique: true}}}
}

// great is a schema of as many bytes as one may have.
func great() api.Schema {
	return api.Schema{Name: "abcdefgh", Columns: []api.Column{{Name: "abcdefgh", Kind: api.Text, Max: 8}, {Name: "bcdefghi", Kind: api.Text, Max: 8}, {Name: "cdefghij", Kind: api.Bool}}, Indexes: []api.Index{{Column: 2, Unique: true}, {Column: 1}}}
}

func create(s api.Schema) api.Op             { return api.Op{Kind: api.Create, Schema: s} }
func insert(t string, l ...api.Value) api.Op { return api.Op{Kind: api.Insert, Table: t, Row: l} }
func update(t string, l ...api.Value) api.Op { return api.Op{Kind: api.Update, Table: t, Row: l} }
func remove(t string, key api.Value) api.Op  { return api.Op{Kind: api.Delete, Table: t, Key: key} }
func ask(t string, key api.Value) api.Op     { return api.Op{Kind: api.Get, Table: t, Key: key} }
func scan(t string, column int, lo, hi api.Value, limit int) api.Op {
	return api.Op{Kind: api.Scan, Table: t, Column: column, Lo: lo, Hi: hi, Limit: limit}
}

func command(session, seq int, l ...api.Op) api.Command {
	return api.Command{Session: session, Seq: seq, Ops: l}
}

func batch(server int, l ...api.Command) api.Entry {
	return api.Entry{Kind: api.EBatch, Server: server, Commands: l}
}

// bare is an entry that is no batch.
func bare(kind, server, n int) api.Entry { return api.Entry{Kind: kind, Server: server, N: n} }

// manyOps are operations of each kind that are right, with fields of each sort.
func manyOps() ops {
	return ops{create(little("t")), create(great()), create(api.Schema{Name: "z", Columns: []api.Column{{Name: "a", Kind: api.Bool}}}),
		insert("t", num(-1), word("ÄÖÜäöüßx"), truth(1)), insert("t"), insert("abcdefgh", longest(), longest(), longest()), insert("t", none(), none()), insert("t", num(math.MinInt)),
		update("t", num(math.MaxInt), word("\x00")), update("t"), update("z", truth(0)),
		remove("t", num(300)), remove("t", none()), remove("abcdefgh", longest()), remove("t", word("")),
		ask("t", num(1)), ask("t", none()), ask("abcdefgh", longest()), ask("t", truth(1)),
		scan("t", 0, none(), none(), 1), scan("t", 1, word("a"), word("b"), 4), scan("abcdefgh", 2, longest(), longest(), 4), scan("t", 2, none(), num(7), 3), scan("t", 1, num(7), none(), 2)}
}

// some are entries of each kind, no two of which are the same.
func some() []api.Entry {
	l := []api.Entry{bare(api.EView, 2, 7), bare(api.EView, 2, 8), bare(api.EView, 0, 0), bare(api.EView, 3, math.MaxInt32), bare(api.EEnd, 2, 7), bare(api.EEnd, 0, 0), bare(api.EEnd, 3, math.MaxInt32),
		bare(api.ELease, 3, 1), bare(api.ELease, 0, 7), bare(api.ELease, 1, 1<<20), bare(api.EUpgrade, 0, 1), bare(api.EUpgrade, 2, 2), full()}
	for _, c := range []commands{{command(0, 1)}, {command(7, math.MaxInt32)}, {command(3, 300), command(3, 300)}, {command(1, 1), command(2, 1), command(1, 2)}} {
		l = append(l, batch(0, c...), batch(3, c...))
	}
	for i, o := range manyOps() {
		next := manyOps()[(i+1)%len(manyOps())]
		l = append(l, batch(0, command(0, 1, o)), batch(1, command(5, 77, o, next), command(6, 128)), batch(2, command(4, 9, next, o, o), command(4, 10), command(0, 127, o)))
	}
	return l
}

// full is an entry of as many bytes as one may have.
func full() api.Entry {
	o := insert("abcdefgh", longest(), longest(), longest())
	c := command(7, math.MaxInt32, o, o, o)
	return batch(3, c, c, c)
}

// fullReply is a reply of as many bytes as one may have.
func fullReply() api.Reply {
	return api.Reply{Err: 1 << 16, At: 2, Rows: slices.Repeat(rows{{longest(), longest(), longest()}}, 12)}
}

// someReplies are replies, no two of which are the same.
func someReplies() []api.Reply {
	row := values{num(1), word("ÄÖÜäöüßx"), truth(1)}
	l := []api.Reply{{}, fullReply(), {Err: api.ErrArg}, {Err: api.ErrNone, At: 1}, {Err: api.ErrUnique, At: 2}, {At: 1}, {Err: 1 << 16}, {Rows: rows{nil}}, {Rows: rows{nil, nil}}, {Rows: rows{nil, row}}, {Rows: rows{row, nil}}, {Rows: slices.Repeat(rows{row}, 12)}, {Rows: make(rows, 12)}, {Err: api.ErrKey, At: 1, Rows: rows{row}}}
	for _, v := range []api.Value{none(), num(0), num(-1), num(math.MinInt), num(math.MaxInt), truth(0), truth(1), word(""), word("a"), word("Ä"), word("\x00"), longest()} {
		l = append(l, api.Reply{Rows: rows{{v}}}, api.Reply{Rows: rows{{v, v, v}, {v}, {v, v}}})
	}
	return l
}

// copied has the same in new memory, an empty list as a nil one; so two are alike if their copies are.
func copied(e api.Entry) api.Entry {
	e.Commands = copiedList(e.Commands)
	for i, c := range e.Commands {
		l := copiedList(c.Ops)
		for at, o := range l {
			l[at].Row = copiedList(o.Row)
			l[at].Schema.Columns, l[at].Schema.Indexes = copiedList(o.Schema.Columns), copiedList(o.Schema.Indexes)
		}
		e.Commands[i].Ops = l
	}
	return e
}

func copiedReply(r api.Reply) api.Reply {
	r.Rows = copiedList(r.Rows)
	for i, row := range r.Rows {
		r.Rows[i] = copiedList(row)
	}
	return r
}

func copiedList[T any](l []T) []T { return append([]T(nil), l...) }

func alike(a, b api.Entry) bool { return reflect.DeepEqual(copied(a), copied(b)) }

func alikeReplies(a, b api.Reply) bool { return reflect.DeepEqual(copiedReply(a), copiedReply(b)) }

func mustEncode(t *testing.T, e api.Entry) []byte {
	t.Helper()
	b, refused := Encode(e)
	if refused != api.OK || len(b) == 0 || len(b) > 1800 {
		t.Fatalf("17.2: Encode of %+v: %d bytes, error %d", e, len(b), refused)
	}
	return b
}

func mustDecode(t *testing.T, b []byte) api.Entry {
	t.Helper()
	e, refused := Decode(b)
	if refused != api.OK {
		t.Fatalf("17.2: Decode of %v: error %d", b, refused)
	}
	return e
}

// mustRefuse is what Decode tells of bytes that are no entry's.
func mustRefuse(t *testing.T, b []byte, why string) {
	t.Helper()
	if e, refused := Decode(b); refused != api.ErrForm || !reflect.DeepEqual(e, api.Entry{}) {
		t.Errorf("17.2: Decode of %s, %v: %+v, error %d", why, b, e, refused)
	}
}

func mustEncodeReply(t *testing.T, r api.Reply) []byte {
	t.Helper()
	b, e := EncodeReply(r)
	if e != api.OK || len(b) == 0 || len(b) > 1790 {
		t.Fatalf("17.2: EncodeReply of %+v: %d bytes, error %d", r, len(b), e)
	}
	return b
}

func mustDecodeReply(t *testing.T, b []byte) api.Reply {
	t.Helper()
	r, e := DecodeReply(b)
	if e != api.OK {
		t.Fatalf("17.2: DecodeReply of %v: error %d", b, e)
	}
	return r
}

func mustRefuseReply(t *testing.T, b []byte, why string) {
	t.Helper()
	if r, e := DecodeReply(b); e != api.ErrForm || !reflect.DeepEqual(r, api.Reply{}) {
		t.Errorf("17.2: DecodeReply of %s, %v: %+v, error %d", why, b, r, e)
	}
}

func one[T any](r *rand.Rand, l ...T) T { return l[r.Intn(len(l))] }
