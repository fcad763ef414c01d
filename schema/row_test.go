package schema

import (
	"bytes"
	"math"
	"math/rand"
	"slices"
	"strings"
	"testing"
	"unicode/utf8"

	"headland/api"
	"headland/keys"
	"headland/wire"
)

func mustRowComeBack(t *testing.T, l row) {
	t.Helper()
	b := mustEncodeRow(t, l)
	if len(b) > 120 {
		t.Fatalf("14.3: %v has %d bytes", l, len(b))
	}
	if again, e := DecodeRow(b); e != api.OK || !alikeRows(again, l) {
		t.Fatalf("14.4: DecodeRow of EncodeRow of %v: %v, error %d", l, again, e)
	}
	if again := mustEncodeRow(t, l); !bytes.Equal(again, b) {
		t.Fatalf("rule 7: %v is encoded as %v and %v", l, b, again)
	}
}

// edgeRows may all be encoded, and are unlike.
func edgeRows() []row {
	l := []row{nil, {none()}, {none(), none()}, {none(), none(), none()}, {truth(0)}, {truth(1)}, {num(1), word("äöü")}, {none(), word("ÄÖÜäöüßx"), truth(1)}, {word("a"), num(97), truth(0)}, {word(""), word(""), word("")}, {num(math.MinInt), num(math.MaxInt), num(0)}}
	for _, n := range edgeNumbers() {
		l = append(l, row{num(n)}, row{none(), num(n)})
	}
	for _, c := range runesOfEachSize {
		for _, count := range []int{1, 7, 8} {
			s := word(strings.Repeat(c, count))
			l = append(l, row{s}, row{s, s, s}, row{s, none(), num(-1)})
		}
	}
	return l
}

func TestRowsComeBack(t *testing.T) {
	for _, l := range edgeRows() {
		mustRowComeBack(t, l)
	}
	mustRowComeBack(t, row{})
	r := rand.New(rand.NewSource(6))
	for range 30000 {
		if l := someRow(r); plainRow(l) == api.OK {
			mustRowComeBack(t, l)
		}
	}
}

func TestUnlikeRows(t *testing.T) {
	l := edgeRows()
	for i, a := range l {
		for j, b := range l {
			if i != j && bytes.HasPrefix(mustEncodeRow(t, b), mustEncodeRow(t, a)) {
				t.Errorf("14.4: the bytes of %v begin those of %v", a, b)
			}
		}
	}
}

func TestRowsRefused(t *testing.T) {
	check := func(why string, want api.Errno, l ...api.Value) {
		t.Helper()
		if b, e := EncodeRow(l); len(b) > 0 || e != want {
			t.Errorf("14.3: EncodeRow, %s: %v, error %d, not %d", why, b, e, want)
		}
	}
	check("four", api.ErrMany, num(1), num(2), num(3), num(4))
	check("four of Nothing", api.ErrMany, make(row, 4)...)
	check("a thousand", api.ErrMany, make(row, 1000)...)
	long := word("123456789")
	check("four, one of them too long", api.ErrMany, num(1), long, num(3), num(4))
	for why, v := range wrongValues() {
		check(why, api.ErrRow, v)
		check(why+", the last one", api.ErrRow, none(), num(1), v)
		check(why+", the first one", api.ErrRow, v, word("a"), truth(1))
		check(why+", beside one that is too long", api.ErrRow, long, v)
		check(why+", the first of four", api.ErrMany, v, num(1), num(2), num(3))
		check(why+", the last of four", api.ErrMany, num(1), num(2), num(3), v)
	}
	for _, c := range runesOfEachSize {
		for _, count := range []int{9, 10, 17, 264, 5000} {
			s := word(strings.Repeat(c, count))
			check("too long", api.ErrRow, s)
			check("too long, the last one", api.ErrRow, num(1), none(), s)
			check("too long, the first one", api.ErrRow, s, word("a"), word(strings.Repeat(c, 8)))
		}
	}
}

func TestCutRows(t *testing.T) {
	mustRefuseRow(t, nil, "no bytes")
	mustRefuseRow(t, []byte{}, "no bytes")
	for _, l := range edgeRows() {
		b := mustEncodeRow(t, l)
		for end := range b {
			mustRefuseRow(t, b[:end], "a beginning")
			mustRefuseRow(t, b[:end:end], "a beginning")
		}
		for more := range 256 {
			mustRefuseRow(t, append(slices.Clone(b), byte(more)), "a byte more")
		}
		mustRefuseRow(t, append(slices.Clone(b), b...), "twice")
	}
}

func TestTurnedRows(t *testing.T) {
	for _, l := range edgeRows() {
		b := mustEncodeRow(t, l)
		for at, c := range b {
			for by := 1; by < 256; by++ {
				b[at] = c ^ byte(by)
				checkRowBytes(t, b)
			}
			b[at] = c
			checkRowBytes(t, append(slices.Clone(b[:at]), b[at+1:]...))
			checkRowBytes(t, slices.Insert(slices.Clone(b), at, c))
			checkRowBytes(t, slices.Insert(slices.Clone(b), at, 0))
		}
	}
}

// laidRow is how many, and the values, as keys has them.
func laidRow(t *testing.T, count int, l ...api.Value) []byte {
	t.Helper()
	key, e := keys.Key(l...)
	if e != api.OK {
		t.Fatalf("2.2: Key of %v: error %d", l, e)
	}
	return append(wire.Uint(count), key...)
}

func TestLaidRows(t *testing.T) {
	if b, want := mustEncodeRow(t, row{num(1), word("ä"), none()}), laidRow(t, 3, num(1), word("ä"), none()); !bytes.Equal(b, want) {
		t.Fatalf("14.3: EncodeRow: %v, not %v", b, want)
	}
	for why, b := range map[string][]byte{
		"four values":                laidRow(t, 4, num(1), num(2), num(3), num(4)),
		"four of Nothing":            laidRow(t, 4, make(row, 4)...),
		"many of Nothing":            laidRow(t, 1000, make(row, 1000)...),
		"four, told as three":        laidRow(t, 3, make(row, 4)...),
		"three, told as two":         laidRow(t, 2, num(1), num(2), num(3)),
		"two, told as three":         laidRow(t, 3, num(1), num(2)),
		"none, told as one":          laidRow(t, 1),
		"one, told as none":          laidRow(t, 0, none()),
		"three, told as 4":           laidRow(t, 4, make(row, 3)...),
		"three, told as without end": laidRow(t, math.MaxInt, make(row, 3)...),
		"one, told as 257":           laidRow(t, 257, none()),
		"a text of nine runes":       laidRow(t, 1, word("123456789")),
		"nine runes, the last one":   laidRow(t, 3, none(), num(1), word(strings.Repeat("ä", 9))),
		"a text of many runes":       laidRow(t, 1, word(strings.Repeat("a", 5000))),
		"none, told in two bytes":    {128, 0},
		"one, told in two bytes":     {128, 1, 1},
		"two, told in three bytes":   {128, 128, 2, 1, 1},
		"how many, of no form":       bytes.Repeat([]byte{255}, 12),
		"how many, cut":              {129},
		"a Kind that there is not":   {1, 5},
		"the Kind's byte 0":          {1, 0},
		"a Bool of 2":                {1, 4, 2},
		"a Bool of 255":              {1, 4, 255},
		"a Bool that is cut":         {1, 4},
		"an Int of seven bytes":      {1, 2, 128, 0, 0, 0, 0, 0, 0},
		"an Int of nine bytes":       {1, 2, 128, 0, 0, 0, 0, 0, 0, 0, 0},
		"a Text without end":         {1, 3, 0, 0, 98},
		"a surrogate":                {1, 3, 0, 0xD8, 1, 0, 0, 0},
		"a rune above 10FFFF":        {1, 3, 0x11, 0, 1, 0, 0, 0},
		"a schema":                   mustEncode(t, little()),
		"the greatest schema":        mustEncode(t, greatest()),
		"spare room is not read":     roomy([]byte{1}, 1),
		"bytes 0":                    make([]byte, 20),
		"bytes 255":                  bytes.Repeat([]byte{255}, 120),
	} {
		mustRefuseRow(t, b, why)
	}
}

// plainRow is by the chapter's words.
func plainRow(l row) api.Errno {
	if len(l) > 3 {
		return api.ErrMany
	}
	for _, v := range l {
		if keys.Right(v) != api.OK || v.Kind == api.Text && utf8.RuneCountInString(v.S) > 8 {
			return api.ErrRow
		}
	}
	return api.OK
}

func TestEncodeRowFollowsTheWords(t *testing.T) {
	r := rand.New(rand.NewSource(7))
	var wrong row
	for _, v := range wrongValues() {
		wrong = append(wrong, v)
	}
	count := map[api.Errno]int{}
	for range 50000 {
		l := someRow(r)
		switch r.Intn(4) {
		case 0:
			l = append(l, wrong[r.Intn(len(wrong))])
		case 1:
			l = append(l, word(someText(r, 12)))
		}
		want := plainRow(l)
		if b, e := EncodeRow(l); e != want || (len(b) > 0) != (want == api.OK) {
			t.Fatalf("14.3: EncodeRow of %v: %v, error %d, not %d", l, b, e, want)
		}
		count[want]++
	}
	if count[api.OK] < 5000 || count[api.ErrRow] < 3000 || count[api.ErrMany] < 3000 {
		t.Errorf("14.3: too few of a sort: %v", count)
	}
}

func TestAnyBytesOfRows(t *testing.T) {
	for i := range 1 << 16 {
		checkRowBytes(t, []byte{byte(i >> 8), byte(i)})
		checkRowBytes(t, []byte{2, byte(i >> 8), byte(i)})
		checkRowBytes(t, []byte{byte(i >> 8), 4, byte(i)})
		checkRowBytes(t, []byte{1, 3, byte(i >> 8), byte(i), 1, 0, 0, 0})
		checkRowBytes(t, []byte{1, 2, byte(i >> 8), 0, byte(i), 0, 0, 0, 0, 0})
	}
	r := rand.New(rand.NewSource(8))
	right := 0
	for range 100000 {
		l := someRow(r)
		if r.Intn(4) == 0 {
			l = append(l, someRow(r)...)
		}
		b := laidRow(t, max(0, len(l)+r.Intn(8)/3-1), l...)
		if r.Intn(2) == 0 {
			b[r.Intn(len(b))] = byte(r.Intn(5))
		}
		if checkRowBytes(t, b) {
			right++
		}
		some := make([]byte, r.Intn(40))
		r.Read(some)
		checkRowBytes(t, some)
		for i := range some {
			some[i] &= 7
		}
		checkRowBytes(t, some)
	}
	if right < 10000 {
		t.Errorf("14.4: too few rows: %d", right)
	}
}
