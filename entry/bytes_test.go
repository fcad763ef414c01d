package entry

import (
	"bytes"
	"math"
	"math/rand"
	"slices"
	"testing"

	"headland/api"
	"headland/schema"
	"headland/wire"
)

func TestBytes(t *testing.T) {
	for i, e := range some() {
		b := mustEncode(t, e)
		got := mustDecode(t, b)
		if !alike(got, e) || !Same(got, e) {
			t.Errorf("17.3: Decode of Encode of entry %d: %+v, not %+v", i, got, e)
		}
		if !bytes.Equal(mustEncode(t, got), b) || !bytes.Equal(mustEncode(t, e), b) {
			t.Errorf("17.3: entry %d is encoded as other bytes the next time", i)
		}
		for k, other := range some() {
			if bytes.Equal(mustEncode(t, other), b) != (i == k) {
				t.Errorf("17.3: entries %d and %d have the same bytes", i, k)
			}
		}
	}
}

// TestExample of the chapter.
func TestExample(t *testing.T) {
	e := bare(api.EView, 2, 7)
	b := mustEncode(t, e)
	if got := mustDecode(t, b); !alike(got, e) {
		t.Errorf("17.3: %+v", got)
	}
	for more := range 256 {
		mustRefuse(t, append(slices.Clone(b), byte(more)), "an EView and one byte more")
	}
}

// TestNilAndEmpty mean the same, so they are the same bytes.
func TestNilAndEmpty(t *testing.T) {
	for _, e := range some() {
		other := copied(e)
		if len(e.Commands) == 0 {
			other.Commands = commands{}
		}
		for i, c := range other.Commands {
			if len(c.Ops) == 0 {
				other.Commands[i].Ops = make(ops, 0, 2)
			}
			for at, o := range c.Ops {
				if len(o.Row) == 0 {
					c.Ops[at].Row = values{}
				}
				if len(o.Schema.Columns) == 0 {
					c.Ops[at].Schema.Columns = []api.Column{}
				}
				if len(o.Schema.Indexes) == 0 {
					c.Ops[at].Schema.Indexes = make([]api.Index, 0, 1)
				}
			}
		}
		if !bytes.Equal(mustEncode(t, e), mustEncode(t, other)) || !Same(e, other) || !Same(other, e) {
			t.Errorf("rule 2: %+v is another entry with empty lists in the place of nil ones", e)
		}
	}
	if !bytes.Equal(mustEncodeReply(t, api.Reply{}), mustEncodeReply(t, api.Reply{Rows: rows{}})) || !bytes.Equal(mustEncodeReply(t, api.Reply{Rows: rows{nil}}), mustEncodeReply(t, api.Reply{Rows: rows{{}}})) {
		t.Error("rule 2: a reply with empty lists in the place of nil ones has other bytes")
	}
}

// TestGreatest: no entry has more bytes, whatever its operations are.
func TestGreatest(t *testing.T) {
	most := len(mustEncode(t, full()))
	for _, o := range manyOps() {
		c := command(7, math.MaxInt32, o, o, o)
		if size := len(mustEncode(t, batch(3, c, c, c))); size > most {
			t.Errorf("17.2: three commands of three operations %+v have %d bytes, more than %d", o, size, most)
		}
	}
	if size := len(mustEncodeReply(t, fullReply())); size < 1000 {
		t.Errorf("17.2: the greatest reply has %d bytes", size)
	}
}

// part is bytes, how many ahead.
func part(b ...byte) []byte { return wire.Bytes(b) }

func rowPart(t *testing.T, l ...api.Value) []byte {
	t.Helper()
	b, e := schema.EncodeRow(l)
	if e != api.OK {
		t.Fatalf("14.3: EncodeRow of %v: %d", l, e)
	}
	return wire.Bytes(b)
}

func schemaPart(t *testing.T, s api.Schema) []byte {
	t.Helper()
	b, e := schema.Encode(s)
	if e != api.OK {
		t.Fatalf("14.3: Encode of %v: %d", s, e)
	}
	return wire.Bytes(b)
}

// handLaid are entries, and their bytes in parts, each of which is a number but for what is longer.
func handLaid(t *testing.T) []struct {
	e     api.Entry
	parts [][]byte
} {
	n := wire.Uint
	name := part('t')
	return []struct {
		e     api.Entry
		parts [][]byte
	}{
		{bare(api.EView, 2, 7), [][]byte{n(2), n(2), n(7), n(0)}},
		{bare(api.ELease, 3, 1<<20), [][]byte{n(3), n(3), n(1 << 20), n(0)}},
		{bare(api.EEnd, 0, 300), [][]byte{n(4), n(0), n(300), n(0)}},
		{bare(api.EUpgrade, 1, 2), [][]byte{n(5), n(1), n(2), n(0)}},
		{batch(1, command(7, 300)), [][]byte{n(1), n(1), n(0), n(1), n(7), n(300), n(0)}},
		{batch(0, command(0, 1, create(little("t")), insert("t", num(1), word("a"))), command(2, 3)),
			[][]byte{n(1), n(0), n(0), n(2), n(0), n(1), n(2), n(1), schemaPart(t, little("t")), n(2), name, rowPart(t, num(1), word("a")), n(2), n(3), n(0)}},
		{batch(0, command(1, 2, update("t"), remove("t", word("b")), ask("t", none()))),
			[][]byte{n(1), n(0), n(0), n(1), n(1), n(2), n(3), n(3), name, rowPart(t), n(4), name, rowPart(t, word("b")), n(5), name, rowPart(t, none())}},
		{batch(3, command(1, 2), command(3, 4), command(5, 6, scan("t", 2, num(1), truth(1), 4))),
			[][]byte{n(1), n(3), n(0), n(3), n(1), n(2), n(0), n(3), n(4), n(0), n(5), n(6), n(1), n(6), name, n(2), n(4), rowPart(t, num(1)), rowPart(t, truth(1))}},
	}
}

// TestHandLaid bytes are what they say; a number that is longer than it needs to be is none.
func TestHandLaid(t *testing.T) {
	for _, x := range handLaid(t) {
		b := slices.Concat(x.parts...)
		if got := mustDecode(t, b); !alike(got, x.e) || !bytes.Equal(mustEncode(t, x.e), b) {
			t.Errorf("17.2: Decode of %v: %+v, not %+v", b, got, x.e)
		}
		for i := range x.parts {
			longer := slices.Clone(x.parts)
			longer[i] = append([]byte{128}, longer[i]...)
			mustRefuse(t, slices.Concat(longer...), "a number that is longer than it needs to be")
			longer[i] = append(bytes.Repeat([]byte{128}, 8), x.parts[i]...)
			mustRefuse(t, slices.Concat(longer...), "a number that is far longer than it needs to be")
			mustRefuse(t, slices.Concat(slices.Delete(slices.Clone(x.parts), i, i+1)...), "a part that is not there")
			mustRefuseOrBeAnother(t, slices.Concat(slices.Insert(slices.Clone(x.parts), i, x.parts[i])...), x.e)
		}
		mustRefuse(t, slices.Concat(b, b), "an entry, and once more")
	}
}

// TestCountsAndLengths that are greater than may be, or pass the end, in the place of each number and of each length.
func TestCountsAndLengths(t *testing.T) {
	for _, x := range handLaid(t) {
		for i := range x.parts {
			for _, n := range []int{10, 127, 128, 1800, 1 << 16, 1<<31 - 1, 1 << 31, 1 << 32, 1<<63 - 1} {
				for _, with := range [][]byte{wire.Uint(n), append(wire.Uint(n), x.parts[i][1:]...)} {
					parts := slices.Clone(x.parts)
					parts[i] = with
					if b := slices.Concat(parts...); !bytes.Equal(b, mustEncode(t, x.e)) {
						mustRefuseOrBeAnother(t, b, x.e)
					}
				}
			}
		}
	}
	n := wire.Uint
	for _, b := range [][][]byte{
		{n(1), n(0), n(0), n(4), n(0), n(1), n(0), n(0), n(1), n(0), n(0), n(1), n(0), n(0), n(1), n(0)},
		{n(1), n(0), n(0), n(2), n(0), n(1), n(0)},
		{n(1), n(0), n(0), n(1<<63 - 1), n(0), n(1), n(0)},
		{n(1), n(0), n(0), n(1), n(0), n(1), n(4), n(3), part('t'), rowPart(t), n(3), part('t'), rowPart(t), n(3), part('t'), rowPart(t), n(3), part('t'), rowPart(t)},
		{n(1), n(0), n(0), n(1), n(0), n(1), n(1<<63 - 1), n(3), part('t'), rowPart(t)},
		{n(1), n(0), n(0), n(0)}, {n(1), n(0), n(1), n(1), n(0), n(1), n(0)}, {n(2), n(0), n(0), n(1), n(0), n(1), n(0)}, {n(3), n(0), n(0), n(0)}, {n(3), n(0), n(1<<20 + 1), n(0)}, {n(5), n(0), n(0), n(0)}, {n(5), n(0), n(3), n(0)}, {n(2), n(4), n(0), n(0)}, {n(2), n(0), n(1 << 31), n(0)}, {n(4), n(0), n(1 << 31), n(0)}, {n(0), n(0), n(0), n(0)}, {n(6), n(0), n(1), n(0)},
		{n(1), n(0), n(0), n(1), n(8), n(1), n(0)}, {n(1), n(0), n(0), n(1), n(0), n(0), n(0)}, {n(1), n(0), n(0), n(1), n(0), n(1 << 31), n(0)},
		{n(1), n(0), n(0), n(1), n(0), n(1), n(1), n(0)}, {n(1), n(0), n(0), n(1), n(0), n(1), n(1), n(7)},
	} {
		mustRefuse(t, slices.Concat(b...), "what is not Right")
	}
}

// TestPartsOfOperations that are no operation's: a name, a row, a key or a bound that may not be.
func TestPartsOfOperations(t *testing.T) {
	of := func(parts ...[]byte) []byte {
		return append([]byte{1, 0, 0, 1, 0, 1, 1}, slices.Concat(parts...)...)
	}
	n, name, key := wire.Uint, part('t'), rowPart(t, num(1))
	mustDecode(t, of(n(4), name, key))
	mustDecode(t, of(n(6), name, n(0), n(1), key, key))
	for _, kind := range []int{2, 3, 4, 5} {
		for _, wrong := range [][]byte{part(), part('T'), part([]byte("ä")...), part([]byte("abcdefghi")...), part(bytes.Repeat([]byte{'t'}, 121)...), n(1), {}} {
			mustRefuse(t, of(n(kind), wrong, key), "a wrong name")
			mustRefuse(t, of(n(6), wrong, n(0), n(1), key, key), "a wrong name")
		}
	}
	nine := append([]byte{1, 3}, bytes.Repeat([]byte{0, 0, 98}, 9)...)
	for _, wrong := range [][]byte{part(), part(0, 1), part(1), part(2, 1), part(1, 5), part(1, 4, 2), part(1, 1, 1), part(append(nine, 0, 0, 0)...), part(128, 1, 1), part(4, 1, 1, 1, 1), n(200), {}} {
		for _, kind := range []int{2, 3, 4, 5} {
			mustRefuse(t, of(n(kind), name, wrong), "a wrong row or key")
		}
		mustRefuse(t, of(n(6), name, n(0), n(1), wrong, key), "a wrong Lo")
		mustRefuse(t, of(n(6), name, n(0), n(1), key, wrong), "a wrong Hi")
		mustRefuse(t, of(n(1), wrong), "a wrong Schema")
	}
	for _, row := range [][]byte{rowPart(t), rowPart(t, num(1), num(2)), rowPart(t, none(), none())} {
		mustRefuse(t, of(n(4), name, row), "a row in the place of a key")
		mustRefuse(t, of(n(5), name, row), "a row in the place of a key")
		mustRefuse(t, of(n(6), name, n(0), n(1), row, key), "a row in the place of a Lo")
		mustRefuse(t, of(n(6), name, n(0), n(1), key, row), "a row in the place of a Hi")
	}
	for _, wrong := range [][]byte{n(3), n(4), n(256), n(1<<63 - 1)} {
		mustRefuse(t, of(n(6), name, wrong, n(1), key, key), "a wrong Column")
		mustRefuse(t, of(n(6), name, n(0), append(n(4), wrong...), key, key), "one number more")
	}
	for _, wrong := range [][]byte{n(0), n(5), n(256), n(1<<63 - 1)} {
		mustRefuse(t, of(n(6), name, n(0), wrong, key, key), "a wrong Limit")
	}
}

// mustRefuseOrBeAnother: bytes that were turned are no entry's, or just those of another one.
func mustRefuseOrBeAnother(t *testing.T, b []byte, was api.Entry) bool {
	t.Helper()
	e, refused := Decode(b)
	if refused != api.OK {
		mustRefuse(t, b, "bytes that were turned")
		return false
	}
	if again, refused := Encode(e); !Right(e) || refused != api.OK || !bytes.Equal(again, b) || Same(e, was) {
		t.Fatalf("17.3: Decode of %v is %+v, whose bytes are %v, error %d", b, e, again, refused)
	}
	return true
}

// TestBeginningsAndMore: no entry's bytes begin another one's, nor a reply's.
func TestBeginningsAndMore(t *testing.T) {
	mustRefuse(t, nil, "no bytes")
	mustRefuse(t, []byte{}, "no bytes")
	for _, e := range some() {
		b := mustEncode(t, e)
		for size := range b {
			mustRefuse(t, b[:size], "a beginning of an entry's bytes")
			mustRefuseOrBeAnother(t, b[size+1:], api.Entry{})
		}
		for more := range 256 {
			mustRefuse(t, append(slices.Clone(b), byte(more)), "an entry and one byte more")
			mustRefuseOrBeAnother(t, append([]byte{byte(more)}, b...), e)
		}
		mustRefuse(t, append(slices.Clone(b), make([]byte, 5000)...), "an entry and very many bytes more")
	}
	for _, r := range someReplies() {
		b := mustEncodeReply(t, r)
		for size := range b {
			mustRefuseOrBeAnother(t, b[:size], api.Entry{})
		}
	}
}

// TestEachByteTurned to each other one, one more in each place, and one gone from each place.
func TestEachByteTurned(t *testing.T) {
	others := 0
	for i, e := range some() {
		b := mustEncode(t, e)
		if len(b) > 100 || i%3 != 0 && i > 20 {
			continue
		}
		for at := range b {
			mustRefuseOrBeAnother(t, slices.Delete(slices.Clone(b), at, at+1), api.Entry{})
			for c := range 256 {
				turned := slices.Clone(b)
				turned[at] = byte(c)
				if byte(c) != b[at] && mustRefuseOrBeAnother(t, turned, e) {
					others++
				}
				if byte(c) != b[at] {
					mustRefuseOrBeAnother(t, slices.Insert(slices.Clone(b), at, byte(c)), e)
				}
			}
		}
	}
	if others < 1000 {
		t.Errorf("17.2: only %d turned bytes are another entry's", others)
	}
}

func TestEachBitTurned(t *testing.T) {
	for _, e := range some() {
		b := mustEncode(t, e)
		for at := range b {
			for bit := range 8 {
				b[at] ^= 1 << bit
				mustRefuseOrBeAnother(t, b, e)
				b[at] ^= 1 << bit
			}
		}
	}
}

// TestAnyBytes, some of which are pieces of entries.
func TestAnyBytes(t *testing.T) {
	r := rand.New(rand.NewSource(17))
	var pieces [][]byte
	for _, e := range some() {
		pieces = append(pieces, mustEncode(t, e))
	}
	for range 40000 {
		b := slices.Clone(one(r, pieces...))
		for range 1 + r.Intn(3) {
			at := r.Intn(len(b) + 1)
			other := one(r, pieces...)
			from := r.Intn(len(other))
			switch r.Intn(4) {
			case 0:
				b = slices.Concat(b[:at], other[from:])
			case 1:
				b = slices.Insert(b, at, byte(r.Intn(256)))
			case 2:
				b = slices.Concat(b[:at], other[from:min(len(other), from+r.Intn(9))], b[min(len(b), at+r.Intn(9)):])
			case 3:
				for i := range b[at:] {
					b[at+i] = byte(r.Intn(4))
				}
			}
		}
		if e, refused := Decode(b); refused == api.OK && !bytes.Equal(mustEncode(t, e), b) {
			t.Fatalf("17.3: Decode of %v is %+v, whose bytes are %v", b, e, mustEncode(t, e))
		} else if refused != api.OK {
			mustRefuse(t, b, "some bytes")
		}
	}
}

// TestNobodyIsToldOfAPanic: of an operation that has no kind an assertion panics inside, if Right was not asked ahead.
func TestNobodyIsToldOfAPanic(t *testing.T) {
	for _, kind := range []int{0, -1, 7, 1 << 32, math.MinInt} {
		for _, e := range inEachPlace(command(0, 1, ask("t", num(1)), api.Op{Kind: kind})) {
			if b, refused := laidDown(e); len(b) > 0 || refused != api.ErrArg {
				t.Errorf("17.2: of an operation of kind %d: %d bytes, error %d", kind, len(b), refused)
			}
			mustBe(t, false, e, "an operation of no kind")
		}
	}
}
