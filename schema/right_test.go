package schema

import (
	"math"
	"math/rand"
	"regexp"
	"strings"
	"testing"

	"headland/api"
)

func TestName(t *testing.T) {
	for s, want := range map[string]bool{
		"": false, "a": true, "z": true, "ab": true, "abcdefgh": true, "zzzzzzzz": true, "abcdefghi": false, strings.Repeat("a", 16): false, strings.Repeat("z", 264): false,
		"A": false, "Z": false, "aB": false, "abcdefgH": false, "0": false, "a1": false, "9a": false, "`": false, "{": false, "a`": false, "{z": false, "@": false, "[": false,
		"ä": false, "aä": false, "äa": false, "ａ": false, "а": false, "𐐨": false, "ſ": false, "ı": false, "é": false, "e\u0301": false,
		"\xFF": false, "a\xFF": false, "\x80a": false, "a\xC3": false, "\xE1": false, "\xC1\xA1": false, "\uFFFD": false,
		" ": false, "a b": false, " a": false, "a ": false, "a\n": false, "\na": false, "\x00": false, "a\x00": false, "a-b": false, "a_b": false, "a.b": false,
	} {
		if Name(s) != want {
			t.Errorf("14.1: Name(%q) is %v", s, !want)
		}
	}
}

// TestNameOfEachByte: each byte at each place of a name of each length.
func TestNameOfEachByte(t *testing.T) {
	for length := 1; length <= 10; length++ {
		for at := range length {
			for c := range 256 {
				b := []byte("mnopqrstuv")[:length]
				b[at] = byte(c)
				want := length <= 8 && 'a' <= c && c <= 'z'
				if Name(string(b)) != want {
					t.Fatalf("14.1: Name(%q) is %v", b, !want)
				}
			}
		}
	}
}

func TestNameOfEachRune(t *testing.T) {
	for r := range rune(0x110000) {
		want := 'a' <= r && r <= 'z'
		if Name(string(r)) != want || Name("x"+string(r)) != want {
			t.Fatalf("14.1: Name of the rune %X is %v", r, !want)
		}
	}
}

func TestRight(t *testing.T) {
	for _, s := range rightSchemas() {
		mustTell(t, Right(s), api.OK, "14.1: Right")
	}
	mustTell(t, Right(turned(little(), func(s *api.Schema) { s.Indexes = indexes{} })), api.OK, "14.1: Right, an empty list of indexes")
	mustTell(t, Right(turned(little(), func(s *api.Schema) { s.Columns[0].Name = "t" })), api.OK, "14.1: Right, a column with the table's name")
}

// wrongSchemas are not Right, by what is wrong.
func wrongSchemas() map[string]api.Schema {
	all := map[string]api.Schema{
		"zero":                  {},
		"no column":             {Name: "t"},
		"no column, but a list": {Name: "t", Columns: columns{}},
		"no column, an index":   {Name: "t", Indexes: indexes{{Column: 0}}},
		"a zero column":         {Name: "t", Columns: columns{{}}},
		"four columns":          {Name: "t", Columns: columns{intColumn("a"), intColumn("b"), intColumn("c"), intColumn("d")}},
		"many columns":          {Name: "t", Columns: make(columns, 1000)},
		"four, an index":        {Name: "t", Columns: columns{intColumn("a"), intColumn("b"), intColumn("c"), intColumn("d")}, Indexes: indexes{{Column: 3}}},
		"an index of one":       {Name: "t", Columns: columns{intColumn("a")}, Indexes: indexes{{Column: 0}}},
		"an index behind one":   {Name: "t", Columns: columns{intColumn("a")}, Indexes: indexes{{Column: 1}}},
	}
	add := func(why string, turn func(s *api.Schema)) { all[why] = turned(middling(), turn) }
	for _, name := range []string{"", "A", "abcdefghi", "a1", "ä", "`", "{", "\xFF", "a b"} {
		add("the name "+name, func(s *api.Schema) { s.Name = name })
		for i := range 3 {
			add("the name "+name+" of a column "+string(rune('0'+i)), func(s *api.Schema) { s.Columns[i].Name = name })
		}
	}
	for _, at := range [][2]int{{0, 1}, {0, 2}, {1, 2}, {1, 0}, {2, 0}, {2, 1}} {
		add("one name at "+string([]rune{rune('0' + at[0]), rune('0' + at[1])}), func(s *api.Schema) { s.Columns[at[0]].Name = s.Columns[at[1]].Name })
	}
	add("one name of three", func(s *api.Schema) { s.Columns[0].Name, s.Columns[1].Name, s.Columns[2].Name = "k", "k", "k" })
	add("three indexes", func(s *api.Schema) { s.Indexes = indexes{{Column: 1}, {Column: 2}, {Column: 0}} })
	add("three indexes, one twice", func(s *api.Schema) { s.Indexes = indexes{{Column: 1}, {Column: 2}, {Column: 1, Unique: true}} })
	add("three indexes, one past", func(s *api.Schema) { s.Indexes = indexes{{Column: 1}, {Column: 2}, {Column: 3}} })
	add("four indexes", func(s *api.Schema) { s.Indexes = indexes{{Column: 1}, {Column: 2}, {Column: 1}, {Column: 2}} })
	add("four indexes, unlike", func(s *api.Schema) { s.Indexes = indexes{{Column: 1}, {Column: 2}, {Column: 3}, {Column: 4}} })
	add("many indexes", func(s *api.Schema) { s.Indexes = make(indexes, 1000) })
	add("two over 1", func(s *api.Schema) { s.Indexes = indexes{{Column: 1}, {Column: 1}} })
	add("two over 1, one of them unique", func(s *api.Schema) { s.Indexes = indexes{{Column: 1}, {Column: 1, Unique: true}} })
	add("two over 2", func(s *api.Schema) { s.Indexes = indexes{{Column: 2, Unique: true}, {Column: 2, Unique: true}} })
	return all
}

func TestNotRight(t *testing.T) {
	for why, s := range wrongSchemas() {
		mustTell(t, Right(s), api.ErrSchema, "14.1: Right, "+why)
		if b, e := Encode(s); len(b) > 0 || e != api.ErrSchema {
			t.Errorf("14.3: Encode, %s: %v, error %d", why, b, e)
		}
	}
}

// TestKindsAndMax: each Kind with each Max, in each column.
func TestKindsAndMax(t *testing.T) {
	numbers := []int{math.MinInt, -256, -9, -8, -2, -1, 0, 1, 2, 3, 4, 5, 6, 7, 8, 9, 10, 16, 255, 256, 257, 258, 259, 264, math.MaxInt}
	for at := range 3 {
		for _, kind := range numbers {
			for _, max := range numbers {
				s := turned(middling(), func(s *api.Schema) { s.Columns[at].Kind, s.Columns[at].Max = kind, max })
				want := api.ErrSchema
				switch {
				case kind == 2 && max >= 1 && max <= 8, (kind == 1 || kind == 3) && max == 0:
					want = api.OK
				}
				if got := Right(s); got != want {
					t.Errorf("14.1: Right of Kind %d and Max %d in the column %d: error %d, not %d", kind, max, at, got, want)
				}
			}
		}
	}
}

// TestIndexes: an index over each column that there is or not, of one to three columns, alone and behind another one.
func TestIndexes(t *testing.T) {
	for count := 1; count <= 3; count++ {
		for _, at := range []int{math.MinInt, -256, -2, -1, 0, 1, 2, 3, 4, 255, 256, 257, 258, math.MaxInt} {
			for _, unique := range []bool{false, true} {
				s := middling()
				s.Columns, s.Indexes = s.Columns[:count], indexes{{Column: at, Unique: unique}}
				want := api.ErrSchema
				if at >= 1 && at < count {
					want = api.OK
				}
				mustTell(t, Right(s), want, "14.1: Right of an index")
				for first := 1; first < count; first++ {
					two := want
					if first == at {
						two = api.ErrSchema
					}
					s.Indexes = indexes{{Column: first}, {Column: at, Unique: unique}}
					mustTell(t, Right(s), two, "14.1: Right of two indexes")
					s.Indexes = indexes{{Column: at, Unique: unique}, {Column: first}}
					mustTell(t, Right(s), two, "14.1: Right of two indexes, turned round")
				}
			}
		}
	}
}

var namePattern = regexp.MustCompile(`^[a-z]{1,8}$`)

// plainRight is by the chapter's words.
func plainRight(s api.Schema) bool {
	right := namePattern.MatchString(s.Name) && len(s.Columns) >= 1 && len(s.Columns) <= 3 && len(s.Indexes) <= 3
	for i, c := range s.Columns {
		right = right && namePattern.MatchString(c.Name)
		for _, d := range s.Columns[i+1:] {
			right = right && c.Name != d.Name
		}
		if c.Kind == api.Text {
			right = right && c.Max >= 1 && c.Max <= 8
		} else {
			right = right && (c.Kind == api.Int || c.Kind == api.Bool) && c.Max == 0
		}
	}
	for i, x := range s.Indexes {
		right = right && x.Column >= 1 && x.Column <= len(s.Columns)-1
		for _, y := range s.Indexes[i+1:] {
			right = right && x.Column != y.Column
		}
	}
	return right
}

func TestRightFollowsTheWords(t *testing.T) {
	r := rand.New(rand.NewSource(1))
	count := [2]int{}
	for range 50000 {
		s := someSchema(r)
		want := plainRight(s)
		if got := Right(s); got != api.OK && got != api.ErrSchema || (got == api.OK) != want {
			t.Fatalf("14.1: Right of %v: error %d, not %v", s, got, want)
		}
		count[map[bool]int{true: 1}[want]]++
	}
	if count[0] < 10000 || count[1] < 10000 {
		t.Errorf("14.1: too few of a sort: %v", count)
	}
}
