package entry

import (
	"bytes"
	"fmt"
	"math"
	"math/rand"
	"slices"
	"testing"

	"headland/api"
	"headland/schema"
	"headland/wire"
)

// mustBeReply is EncodeReply of a reply that has bytes, or has none; and DecodeReply of them.
func mustBeReply(t *testing.T, right bool, r api.Reply, why string) {
	t.Helper()
	b, e := EncodeReply(r)
	if !right {
		if len(b) > 0 || e != api.ErrArg {
			t.Errorf("17.2: EncodeReply of %s: %d bytes, error %d: %.300s", why, len(b), e, fmt.Sprint(r))
		}
		return
	}
	if e != api.OK || len(b) == 0 || len(b) > 1790 {
		t.Errorf("17.2: EncodeReply of %s: %d bytes, error %d: %.300s", why, len(b), e, fmt.Sprint(r))
	} else if got := mustDecodeReply(t, b); !alikeReplies(got, r) || !bytes.Equal(mustEncodeReply(t, got), b) {
		t.Errorf("17.3: DecodeReply of EncodeReply of %s: %+v, not %+v", why, got, r)
	}
}

func TestReplies(t *testing.T) {
	for i, r := range someReplies() {
		mustBeReply(t, true, r, "a reply")
		b := mustEncodeReply(t, r)
		for k, other := range someReplies() {
			if bytes.Equal(mustEncodeReply(t, other), b) != (i == k) {
				t.Errorf("17.3: replies %d and %d have the same bytes", i, k)
			}
		}
	}
}

func TestErrAndAt(t *testing.T) {
	row := values{num(1), word("a")}
	numbers := append(edges(), 1<<16-1, 1<<16, 1<<16+1)
	for _, e := range numbers {
		for _, at := range numbers {
			right := 0 <= e && e <= 1<<16 && 0 <= at && at <= 2
			for _, l := range []rows{nil, {}, {row}, {row, nil, row}} {
				mustBeReply(t, right, api.Reply{Err: api.Errno(e), At: at, Rows: l}, "an Err and an At")
			}
		}
	}
}

func TestRows(t *testing.T) {
	row := values{num(1), word("ä"), truth(1)}
	for count := range 30 {
		for _, l := range []rows{slices.Repeat(rows{row}, count), make(rows, count)} {
			mustBeReply(t, count <= 12, api.Reply{Rows: l}, fmt.Sprint(count, " rows"))
			mustBeReply(t, count <= 12, api.Reply{Err: api.ErrNone, At: 2, Rows: l}, fmt.Sprint(count, " rows beside an error"))
		}
	}
	mustBeReply(t, false, api.Reply{Rows: make(rows, 100000)}, "very many rows")
	wrong := rows{make(values, 4), {num(1), num(2), num(3), num(4)}, make(values, 100)}
	for _, v := range wrongValues() {
		wrong = append(wrong, values{v}, values{v, num(1), none()}, values{num(1), v}, values{num(1), truth(1), v})
	}
	for _, x := range wrong {
		if _, e := schema.EncodeRow(x); e == api.OK {
			t.Fatalf("14.3: EncodeRow of %v", x)
		}
		for count := 1; count <= 12; count++ {
			for at := range count {
				l := slices.Repeat(rows{row}, count)
				l[at] = x
				mustBeReply(t, false, api.Reply{Rows: l}, "a row that may not be")
			}
		}
	}
	for count := range 4 {
		for _, v := range (values{none(), num(math.MinInt), truth(0), word(""), longest()}) {
			mustBeReply(t, true, api.Reply{Rows: rows{slices.Repeat(values{v}, count)}}, "a row that no table has")
		}
	}
}

// mustRefuseOrBeAnotherReply: bytes that were turned are no reply's, or just those of another one.
func mustRefuseOrBeAnotherReply(t *testing.T, b []byte, was api.Reply) bool {
	t.Helper()
	r, e := DecodeReply(b)
	if e != api.OK {
		mustRefuseReply(t, b, "bytes that were turned")
		return false
	}
	if again, e := EncodeReply(r); e != api.OK || !bytes.Equal(again, b) || alikeReplies(r, was) {
		t.Fatalf("17.3: DecodeReply of %v is %+v, whose bytes are %v, error %d", b, r, again, e)
	}
	return true
}

// noReply is like no reply that has bytes.
func noReply() api.Reply { return api.Reply{Err: -1} }

func TestRepliesBeginningsAndMore(t *testing.T) {
	mustRefuseReply(t, nil, "no bytes")
	mustRefuseReply(t, []byte{}, "no bytes")
	for _, r := range someReplies() {
		b := mustEncodeReply(t, r)
		for size := range b {
			mustRefuseReply(t, b[:size], "a beginning of a reply's bytes")
			mustRefuseOrBeAnotherReply(t, b[size+1:], noReply())
		}
		for more := range 256 {
			mustRefuseReply(t, append(slices.Clone(b), byte(more)), "a reply and one byte more")
			mustRefuseOrBeAnotherReply(t, append([]byte{byte(more)}, b...), r)
		}
		mustRefuseReply(t, append(slices.Clone(b), make([]byte, 5000)...), "a reply and very many bytes more")
	}
	for _, e := range some() {
		b := mustEncode(t, e)
		for size := range len(b) + 1 {
			mustRefuseOrBeAnotherReply(t, b[:size], noReply())
		}
	}
}

func TestRepliesTurned(t *testing.T) {
	others := 0
	for _, r := range someReplies() {
		b := mustEncodeReply(t, r)
		for at := range b {
			for c := range 256 {
				if byte(c) == b[at] || len(b) > 100 && bitsTurned(byte(c)^b[at]) > 1 {
					continue
				}
				turned := slices.Clone(b)
				turned[at] = byte(c)
				if mustRefuseOrBeAnotherReply(t, turned, r) {
					others++
				}
				mustRefuseOrBeAnotherReply(t, slices.Insert(slices.Clone(b), at, byte(c)), r)
			}
			mustRefuseOrBeAnotherReply(t, slices.Delete(slices.Clone(b), at, at+1), noReply())
		}
	}
	if others < 1000 {
		t.Errorf("17.2: only %d turned bytes are another reply's", others)
	}
}

func bitsTurned(c byte) int {
	count := 0
	for ; c > 0; c &= c - 1 {
		count++
	}
	return count
}

// TestRepliesHandLaid: numbers that are longer than they need to be, counts that are too great, lengths that pass the end.
func TestRepliesHandLaid(t *testing.T) {
	n, row := wire.Uint, rowPart(t, num(1), word("a"))
	for _, x := range []struct {
		r     api.Reply
		parts [][]byte
	}{
		{api.Reply{}, [][]byte{n(0), n(0), n(0)}},
		{api.Reply{Err: api.ErrUnique, At: 2}, [][]byte{n(64), n(2), n(0)}},
		{api.Reply{Err: 1 << 16, At: 1, Rows: rows{nil}}, [][]byte{n(1 << 16), n(1), n(1), rowPart(t)}},
		{api.Reply{Rows: rows{{num(1), word("a")}, nil, {truth(1)}}}, [][]byte{n(0), n(0), n(3), row, rowPart(t), rowPart(t, truth(1))}},
	} {
		b := slices.Concat(x.parts...)
		if got := mustDecodeReply(t, b); !alikeReplies(got, x.r) || !bytes.Equal(mustEncodeReply(t, x.r), b) {
			t.Errorf("17.2: DecodeReply of %v: %+v, not %+v", b, got, x.r)
		}
		for i, p := range x.parts {
			turned := slices.Clone(x.parts)
			for count := 1; count <= 9; count++ {
				turned[i] = append(bytes.Repeat([]byte{128}, count), p...)
				mustRefuseReply(t, slices.Concat(turned...), "a number that is longer than it needs to be")
			}
			mustRefuseReply(t, slices.Concat(slices.Delete(slices.Clone(x.parts), i, i+1)...), "a part that is not there")
			for _, great := range []int{13, 127, 128, 1800, 1 << 17, 1 << 31, 1<<63 - 1} {
				turned[i] = append(n(great), p[1:]...)
				mustRefuseOrBeAnotherReply(t, slices.Concat(turned...), x.r)
			}
		}
		mustRefuseReply(t, slices.Concat(b, b), "a reply, and once more")
	}
	for _, wrong := range [][][]byte{
		{n(1<<16 + 1), n(0), n(0)}, {n(1<<63 - 1), n(0), n(0)}, {n(0), n(3), n(0)}, {n(0), n(1 << 32), n(0)}, {n(0), n(0), n(1)}, {n(0), n(0), n(0), n(0)},
		{n(0), n(0), n(13), bytes.Repeat(rowPart(t), 13)}, {n(0), n(0), n(13), bytes.Repeat(rowPart(t), 12)}, {n(0), n(0), n(12), bytes.Repeat(rowPart(t), 13)}, {n(0), n(0), n(12), bytes.Repeat(rowPart(t), 11)}, {n(0), n(0), n(1<<63 - 1), row},
		{n(0), n(0), n(1), part()}, {n(0), n(0), n(1), part(1)}, {n(0), n(0), n(1), part(4, 1, 1, 1, 1)}, {n(0), n(0), n(1), part(1, 5)}, {n(0), n(0), n(1), n(200)}, {n(0), n(0), n(2), row}, {n(0), n(0), n(1), row, row},
	} {
		mustRefuseReply(t, slices.Concat(wrong...), "what no reply is encoded as")
	}
}

// someReply is a reply that may be wrong.
func someReply(r *rand.Rand) (api.Reply, bool) {
	value := func() api.Value { return one(r, none(), num(r.Int()), truth(1), word("Ж"), longest()) }
	told := api.Reply{Err: api.Errno(r.Intn(1<<16 + 1)), At: r.Intn(3)}
	right := true
	for range r.Intn(13) {
		row := make(values, r.Intn(4))
		for i := range row {
			row[i] = value()
		}
		told.Rows = append(told.Rows, row)
	}
	switch r.Intn(12) {
	case 0:
		told.Err, right = one(r, -told.Err-1, told.Err+1<<16+1), false
	case 1:
		told.At, right = one(r, -told.At-1, told.At+3), false
	case 2:
		told.Rows, right = append(told.Rows, make(rows, 13)...), false
	case 3:
		told.Rows, right = append(told.Rows, slices.Repeat(values{value()}, 4)), false
	case 4:
		told.Rows, right = append(told.Rows, values{one(r, wrongValues()...)}), false
	}
	return told, right
}

func TestSomeReplies(t *testing.T) {
	r := rand.New(rand.NewSource(170))
	for range 5000 {
		told, right := someReply(r)
		mustBeReply(t, right, told, "some reply")
	}
}
