package schema

import (
	"fmt"
	"math"
	"math/rand"
	"strings"
	"testing"
	"unicode/utf8"

	"headland/api"
	"headland/keys"
)

func mustFit(t *testing.T, s api.Schema, want api.Errno, l ...api.Value) {
	t.Helper()
	if got := Fits(s, l); got != want {
		t.Errorf("14.2: Fits of %v into %v: error %d, not %d", l, s, got, want)
	}
}

func TestExample(t *testing.T) {
	mustFit(t, little(), api.OK, num(1), word("äöü"))
	mustFit(t, little(), api.ErrRow, num(1), word("abcd"))
	mustFit(t, little(), api.ErrRow, num(1))
	mustFit(t, little(), api.ErrRow, word("x"), word("a"))
	mustFit(t, little(), api.ErrRow, none(), word("a"))
}

func TestFits(t *testing.T) {
	for _, n := range edgeNumbers() {
		mustFit(t, little(), api.OK, num(n), word("a"))
	}
	mustFit(t, little(), api.OK, num(1), word(""))
	mustFit(t, little(), api.OK, num(1), none())
	mustFit(t, middling(), api.OK, num(1), none(), none())
	mustFit(t, middling(), api.OK, num(1), none(), truth(1))
	mustFit(t, middling(), api.OK, num(1), word("abc"), truth(0))
	mustFit(t, greatest(), api.OK, word(strings.Repeat("𐐀", 8)), word(strings.Repeat("€", 8)), word(strings.Repeat("ä", 8)))
	mustFit(t, greatest(), api.OK, word(""), word(""), word(""))
	mustFit(t, greatest(), api.ErrRow, none(), none(), none())
	mustFit(t, greatest(), api.ErrRow, none(), word("a"), word("a"))
	mustFit(t, api.Schema{Name: "t", Columns: columns{boolColumn("b")}}, api.OK, truth(0))
	mustFit(t, api.Schema{Name: "t", Columns: columns{boolColumn("b")}}, api.ErrRow, none())
}

func TestHowManyFit(t *testing.T) {
	full := row{num(1), word("a"), truth(1)}
	for count := 1; count <= 3; count++ {
		s := middling()
		s.Columns, s.Indexes = s.Columns[:count], nil
		for length := range 4 {
			want := api.ErrRow
			if length == count {
				want = api.OK
			}
			mustFit(t, s, want, full[:length]...)
		}
		mustFit(t, s, api.ErrRow)
		mustFit(t, s, api.ErrRow, append(full[:count:count], none())...)
		mustFit(t, s, api.ErrRow, append(full[:count:count], num(1), num(2), num(3))...)
		mustFit(t, s, api.ErrRow, append(full[:count:count], make(row, 1000)...)...)
	}
	if e := Fits(little(), nil); e != api.ErrRow {
		t.Errorf("14.2: Fits of no row: error %d", e)
	}
	if e := Fits(little(), row{}); e != api.ErrRow {
		t.Errorf("14.2: Fits of an empty row: error %d", e)
	}
}

// TestEachKindInEachColumn: of three columns of each Kinds each one gets a value of each kind, and Nothing.
func TestEachKindInEachColumn(t *testing.T) {
	byKind := []api.Value{none(), num(1), word("a"), truth(1)}
	for kinds := range 27 {
		s := api.Schema{Name: "t"}
		var good row
		for i, k := range []int{1 + kinds%3, 1 + kinds/3%3, 1 + kinds/9} {
			c := api.Column{Name: string(rune('a' + i)), Kind: k}
			if k == api.Text {
				c.Max = 1
			}
			s.Columns, good = append(s.Columns, c), append(good, byKind[k])
		}
		mustFit(t, s, api.OK, good...)
		for at, c := range s.Columns {
			for kind, v := range byKind {
				l := append(row{}, good...)
				l[at] = v
				want := api.ErrRow
				if kind == c.Kind || kind == api.Nothing && at > 0 {
					want = api.OK
				}
				mustFit(t, s, want, l...)
			}
		}
	}
}

// TestRunesOfTexts: as many runes as Max, one less and one more, of runes of each size, in each column.
func TestRunesOfTexts(t *testing.T) {
	for max := 1; max <= 8; max++ {
		for _, c := range runesOfEachSize {
			for at := range 3 {
				s, l := greatest(), row{word("a"), word("a"), word("a")}
				s.Columns[at].Max = max
				for count, want := range map[int]api.Errno{max - 1: api.OK, max: api.OK, max + 1: api.ErrRow, 4 * max: api.ErrRow, 1000: api.ErrRow} {
					l[at] = word(strings.Repeat(c, count))
					if got := Fits(s, l); got != want {
						t.Fatalf("14.2: Fits of %d runes %q into a Max of %d: error %d, not %d", count, c, max, got, want)
					}
				}
			}
		}
	}
	mixed := "aä€𐐀\x00ß\uFFFD\U0010FFFF"
	mustFit(t, greatest(), api.OK, word(mixed), word(mixed), word(mixed))
	mustFit(t, greatest(), api.ErrRow, word(mixed), word(mixed), word(mixed+"a"))
	mustFit(t, greatest(), api.ErrRow, word(mixed), word("e"+mixed), word(mixed))
	mustFit(t, greatest(), api.ErrRow, word(mixed+"𐐀"), word(mixed), word(mixed))
}

func TestWrongValuesDoNotFit(t *testing.T) {
	s := middling()
	good := row{num(1), word("a"), truth(1)}
	for why, v := range wrongValues() {
		for at := range good {
			l := append(row{}, good...)
			l[at] = v
			mustTell(t, Fits(s, l), api.ErrRow, "14.2: Fits, "+why)
		}
		mustTell(t, Fits(greatest(), row{word("a"), v, word("a")}), api.ErrRow, "14.2: Fits, "+why)
		mustTell(t, Fits(api.Schema{Name: "t", Columns: columns{boolColumn("b")}}, row{v}), api.ErrRow, "14.2: Fits, "+why)
	}
}

// TestFitsOfWhatIsNotRight: the schema is asked ahead of the row.
func TestFitsOfWhatIsNotRight(t *testing.T) {
	for why, s := range wrongSchemas() {
		for _, l := range []row{nil, {}, {none()}, {num(1)}, {num(1), word("a")}, {num(1), word("a"), truth(1)}, {truth(2)}, make(row, 4), make(row, 1000)} {
			mustTell(t, Fits(s, l), api.ErrSchema, "14.2: Fits, "+why)
		}
	}
}

// plainFits is by the chapter's words.
func plainFits(s api.Schema, l row) api.Errno {
	if !plainRight(s) {
		return api.ErrSchema
	}
	if len(l) != len(s.Columns) {
		return api.ErrRow
	}
	for i, v := range l {
		switch c := s.Columns[i]; {
		case keys.Right(v) != api.OK, v.Kind == api.Nothing && i == 0, v.Kind != api.Nothing && v.Kind != c.Kind, v.Kind == api.Text && utf8.RuneCountInString(v.S) > c.Max:
			return api.ErrRow
		}
	}
	return api.OK
}

func TestFitsFollowsTheWords(t *testing.T) {
	r := rand.New(rand.NewSource(2))
	var wrong row
	for _, v := range wrongValues() {
		wrong = append(wrong, v)
	}
	count := map[api.Errno]int{}
	for range 60000 {
		s := someSchema(r)
		l := fitting(r, s)
		switch at := r.Intn(len(l)); r.Intn(8) {
		case 0:
			l[at] = someValue(r)
		case 1:
			l[at] = wrong[r.Intn(len(wrong))]
		case 2:
			l = l[:at]
		case 3:
			l = append(l, someValue(r))
		case 4:
			l[at] = word(someText(r, 10))
		}
		want := plainFits(s, l)
		if got := Fits(s, l); got != want {
			t.Fatalf("14.2: Fits of %v into %v: error %d, not %d", l, s, got, want)
		}
		count[want]++
	}
	if count[api.OK] < 5000 || count[api.ErrRow] < 5000 || count[api.ErrSchema] < 5000 {
		t.Errorf("14.2: too few of a sort: %v", count)
	}
}

func TestFold(t *testing.T) {
	for _, c := range []struct{ l, want row }{
		{nil, nil},
		{row{}, nil},
		{row{word("ÀΣЖx")}, row{word("àσжx")}},
		{row{word("")}, row{word("")}},
		{row{word("AZ@["), word("×Þ"), word("ЯЁ")}, row{word("az@["), word("×þ"), word("яЁ")}},
		{row{num(1), word("ÄÖ"), truth(1)}, row{num(1), word("äö"), truth(1)}},
		{row{num(math.MinInt), none(), truth(0)}, row{num(math.MinInt), none(), truth(0)}},
		{row{none(), num(-1)}, row{none(), num(-1)}},
		{row{word("\xFF"), word("A\xFF"), word("A")}, row{word(""), word(""), word("a")}},
		{row{{Kind: api.Text, N: 7, S: "A"}}, row{{Kind: api.Text, N: 7, S: "a"}}},
		{row{{Kind: api.Text, N: -7, S: "\xFF"}}, row{{Kind: api.Text, N: -7}}},
		{row{{S: "A"}, {Kind: api.Int, N: 1, S: "A"}, {Kind: api.Bool, N: 2, S: "A\xFF"}, {Kind: 4, N: 3, S: "A"}, {Kind: -1, S: "A"}, {Kind: 256 + api.Text, S: "A"}}, row{{S: "A"}, {Kind: api.Int, N: 1, S: "A"}, {Kind: api.Bool, N: 2, S: "A\xFF"}, {Kind: 4, N: 3, S: "A"}, {Kind: -1, S: "A"}, {Kind: 256 + api.Text, S: "A"}}},
		{row{word("A"), word("B"), word("C"), word("D"), num(5), word(strings.Repeat("Q", 100))}, row{word("a"), word("b"), word("c"), word("d"), num(5), word(strings.Repeat("q", 100))}},
	} {
		for _, s := range []api.Schema{{}, little(), middling(), greatest(), {Name: "T", Columns: make(columns, 9), Indexes: make(indexes, 9)}, {Name: "t", Columns: columns{intColumn("k")}}} {
			if got := Fold(s, c.l); !alikeRows(got, c.want) {
				t.Errorf("14.2: Fold of %v by %v: %v, not %v", c.l, s, got, c.want)
			}
		}
	}
}

// TestFoldOfWhatFits: it fits too, and is folded no further.
func TestFoldOfWhatFits(t *testing.T) {
	check := func(s api.Schema, l row) {
		t.Helper()
		small := Fold(s, l)
		if Fits(s, l) != api.OK || Fits(s, small) != api.OK {
			t.Fatalf("14.4: %v fits into %v by error %d, folded %v by error %d", l, s, Fits(s, l), small, Fits(s, small))
		}
		for i, v := range small {
			if want := l[i]; v.Kind != want.Kind || v.N != want.N || v.S != keys.Fold(want.S) {
				t.Fatalf("14.2: Fold of %v: %v", want, v)
			}
		}
		if again := Fold(s, small); !alikeRows(again, small) {
			t.Fatalf("14.4: %v is folded again to %v", small, again)
		}
	}
	for max := 1; max <= 8; max++ {
		s := api.Schema{Name: "t", Columns: columns{textColumn("a", max), textColumn("b", 8)}}
		for r := range rune(0x500) {
			check(s, row{word(strings.Repeat(string(r), max)), word(fmt.Sprintf("%c%c", r, r+1))})
		}
	}
	r := rand.New(rand.NewSource(3))
	for range 20000 {
		s := someSchema(r)
		if Right(s) == api.OK {
			check(s, fitting(r, s))
		}
	}
}
