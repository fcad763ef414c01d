package table

import (
	"cmp"
	"fmt"
	"math"
	"slices"
	"strings"
	"testing"

	"headland/api"
	"headland/draft"
	"headland/keys"
)

func TestScanOfColumns(t *testing.T) {
	d := newDraft(t, little(), mixed(), bare(), sharing())
	mustInsert(t, d, "t", values{num(1), word("b")}, values{num(2), word("a")})
	mustInsert(t, d, "mixed", values{word("x"), num(2), truth(0)}, values{word("y"), num(1), none()})
	mustInsert(t, d, "bare", values{num(2), num(1), num(1)}, values{num(1), num(1), num(2)})
	mustInsert(t, d, "sharing", values{num(1), num(1), num(2)}, values{num(2), num(2), num(1)})
	for name, want := range map[string][]string{
		"t":       {`(1 "b") (2 "a")`, `(2 "a") (1 "b")`, ""},
		"mixed":   {`("x" 2 false) ("y" 1 -)`, `("y" 1 -) ("x" 2 false)`, `("y" 1 -) ("x" 2 false)`},
		"bare":    {"(1 1 2) (2 1 1)", "", ""},
		"sharing": {"(1 1 2) (2 2 1)", "", "(2 2 1) (1 1 2)"},
	} {
		for column, rows := range want {
			if rows != "" {
				mustScan(t, d, name, column, none(), none(), 4, rows)
				continue
			}
			mustNotScan(t, d, name, column, none(), none(), 4, api.ErrColumn, fmt.Sprint(name, " by the column ", column, " without an index"))
		}
		for _, column := range []int{-1, 3, 4, 255, 256, 257, -255, math.MinInt, math.MaxInt} {
			mustNotScan(t, d, name, column, none(), none(), 4, api.ErrColumn, fmt.Sprint(name, " by the column ", column))
		}
	}
}

// TestWhichRefusalOfScanComesFirst: ErrTable, ErrColumn, ErrRow, ErrArg.
func TestWhichRefusalOfScanComesFirst(t *testing.T) {
	d := newDraft(t, little())
	mustInsert(t, d, "t", values{num(1), word("a")})
	wrong := word("\xFF")
	mustNotScan(t, d, "u", 2, wrong, wrong, 0, api.ErrTable, "of no table")
	mustNotScan(t, d, "t", 2, wrong, wrong, 0, api.ErrColumn, "of no index")
	mustNotScan(t, d, "t", 2, none(), none(), 0, api.ErrColumn, "of no index")
	for column := range 2 {
		for _, v := range wrongValues() {
			for _, limit := range []int{0, 1, 4, 5} {
				mustNotScan(t, d, "t", column, v, none(), limit, api.ErrRow, "of a lo that is not Right")
				mustNotScan(t, d, "t", column, none(), v, limit, api.ErrRow, "of a hi that is not Right")
				mustNotScan(t, d, "t", column, v, v, limit, api.ErrRow, "of two bounds that are not Right")
			}
		}
		for _, limit := range []int{0, -1, 5, 6, 64, 65, math.MinInt, math.MaxInt} {
			mustNotScan(t, d, "t", column, none(), none(), limit, api.ErrArg, fmt.Sprint("of the limit ", limit))
			mustNotScan(t, d, "t", column, num(5), num(4), limit, api.ErrArg, fmt.Sprint("of the limit ", limit))
		}
	}
}

func TestLimits(t *testing.T) {
	d := newDraft(t, little())
	for i := range 6 {
		mustInsert(t, d, "t", values{num(5 - i), word(string(rune('a' + i)))})
	}
	rows := []string{`(0 "f")`, `(1 "e")`, `(2 "d")`, `(3 "c")`, `(4 "b")`, `(5 "a")`}
	for limit := 1; limit <= 4; limit++ {
		mustScan(t, d, "t", 0, none(), none(), limit, strings.Join(rows[:limit], " "))
		back := slices.Clone(rows)
		slices.Reverse(back)
		mustScan(t, d, "t", 1, none(), none(), limit, strings.Join(back[:limit], " "))
		mustScan(t, d, "t", 1, word("e"), none(), limit, strings.Join(back[4:min(6, 4+limit)], " "))
		mustScan(t, d, "t", 0, num(1), num(3), limit, strings.Join(rows[1:min(3, 1+limit)], " "))
	}
}

// TestRowsWithOneValue are ordered by the first one, in whatever order they came.
func TestRowsWithOneValue(t *testing.T) {
	for _, order := range orders(4) {
		d := newDraft(t, sharing())
		for _, n := range order {
			mustInsert(t, d, "sharing", values{num(n - 2), none(), num(n / 3)})
		}
		mustScan(t, d, "sharing", 2, none(), none(), 4, "(-2 - 0) (-1 - 0) (0 - 0) (1 - 1)")
		mustScan(t, d, "sharing", 2, num(0), num(1), 2, "(-2 - 0) (-1 - 0)")
		mustScan(t, d, "sharing", 2, num(1), none(), 4, "(1 - 1)")
	}
	d := newDraft(t, sharing())
	for i := range api.MaxRows {
		mustInsert(t, d, "sharing", values{num(63 - i), num(i), num(7)})
	}
	mustScan(t, d, "sharing", 2, num(7), num(8), 4, "(0 63 7) (1 62 7) (2 61 7) (3 60 7)")
	mustScan(t, d, "sharing", 2, num(7), num(7), 4, "")
	mustTell(t, Update(d, "sharing", values{num(1), num(0), num(6)}), api.OK, "15.2: Update")
	mustTell(t, Delete(d, "sharing", num(2)), api.OK, "15.2: Delete")
	mustScan(t, d, "sharing", 2, none(), none(), 4, "(1 0 6) (0 63 7) (3 60 7) (4 59 7)")
}

// TestTheLongestTextsWithOneValue: rows that part at their first value's last rune alone are two.
func TestTheLongestTextsWithOneValue(t *testing.T) {
	s := greatest()
	s.Indexes = indexes{{Column: 2}, {Column: 1}}
	same := word(strings.Repeat("\U0010FFFF", 8))
	var rows []values
	for _, last := range []string{"", "\x00", "a", "\U0010FFFE", "\U0010FFFF"} {
		rows = append(rows, values{word(strings.Repeat("\U0010FFFF", 7) + last), same, same})
	}
	for _, order := range orders(len(rows)) {
		d := newDraft(t, s)
		for _, at := range order {
			mustInsert(t, d, s.Name, rows[at])
		}
		for column := range 3 {
			mustScan(t, d, s.Name, column, none(), none(), 4, spelled(rows[:4]))
		}
		mustTell(t, Delete(d, s.Name, rows[order[0]][0]), api.OK, "15.2: Delete")
		left := slices.Concat(rows[:order[0]], rows[order[0]+1:])
		for column := range 3 {
			mustScan(t, d, s.Name, column, word("a"), none(), 4, spelled(left))
		}
		for column := 1; column < 3; column++ {
			mustScan(t, d, s.Name, column, same, none(), 4, spelled(left))
			mustScan(t, d, s.Name, column, none(), same, 4, "")
		}
	}
}

// plainScan is a look through all rows, by the chapter's words.
func plainScan(rows []values, column int, lo, hi api.Value, limit int) []values {
	var found []values
	for _, l := range rows {
		v := l[column : column+1]
		if keys.Compare(v, values{lo}) >= 0 && (hi == none() || keys.Compare(v, values{hi}) < 0) {
			found = append(found, l)
		}
	}
	slices.SortFunc(found, func(a, b values) int {
		return cmp.Or(keys.Compare(values{a[column]}, values{b[column]}), keys.Compare(values{a[0]}, values{b[0]}))
	})
	return found[:min(limit, len(found))]
}

// bounds are of each Kind, those that rows have, what lies between them, and what no row may have.
func bounds() values {
	l := values{none(), truth(0), truth(1)}
	for _, n := range []int{math.MinInt, -256, -1, 0, 1, 2, 255, 256, math.MaxInt} {
		l = append(l, num(n))
	}
	for _, s := range []string{"", "\x00", "a", "a\x00", "aa", "ab", "abcdefgh", "abcdefgh\x00", "abcdefghi", "abcdefghijklmnopqrs", "abcdefghijklmnopqrst", "b", "ä", "ö", "\U0010FFFF", strings.Repeat("\U0010FFFF", 8), strings.Repeat("\U0010FFFF", 50), strings.Repeat("a", 50), strings.Repeat("\x00", 50)} {
		l = append(l, word(s))
	}
	return l
}

func mustScanAll(t *testing.T, d *draft.Draft, name string, columns int) {
	t.Helper()
	rows := allRows(t, d, name)
	for column := range columns {
		for _, lo := range bounds() {
			for _, hi := range bounds() {
				for limit := 1; limit <= api.MaxTold; limit++ {
					mustScan(t, d, name, column, lo, hi, limit, spelled(plainScan(rows, column, lo, hi, limit)))
				}
			}
		}
	}
}

// TestBounds: each lo with each hi, by each column that has an order, tells what a look through all tells.
func TestBounds(t *testing.T) {
	d := newDraft(t, mixed(), greatest(), sharing())
	texts := values{word(""), word("\x00"), word("a"), word("abcdefgh"), word("b"), word("ö"), word(strings.Repeat("\U0010FFFF", 8))}
	for i, v := range texts {
		other := texts[len(texts)-1-i]
		a, b := num([]int{math.MinInt, -256, -1, 0, 1, 255, math.MaxInt}[i]), truth(i%2)
		if i == 3 {
			a, b, other = none(), none(), none()
		}
		mustInsert(t, d, "mixed", values{v, a, b})
		mustInsert(t, d, "zzzzzzzz", values{v, other, texts[(i+2)%len(texts)]})
		mustInsert(t, d, "sharing", values{num(i - 3), num(i), num(i / 3)})
	}
	mustInsert(t, d, "mixed", values{word("zz"), none(), none()})
	mustInsert(t, d, "sharing", values{num(99), none(), none()}, values{num(98), num(1), none()})
	mustScanAll(t, d, "mixed", 3)
	mustScanAll(t, d, "zzzzzzzz", 3)
	rows := allRows(t, d, "sharing")
	for _, lo := range bounds() {
		for _, hi := range bounds() {
			mustScan(t, d, "sharing", 2, lo, hi, 3, spelled(plainScan(rows, 2, lo, hi, 3)))
		}
	}
	mustScan(t, d, "mixed", 1, num(2), num(1), 4, "")
	mustScan(t, d, "mixed", 1, num(1), num(1), 4, "")
	mustScan(t, d, "mixed", 1, num(1), num(255), 4, `("b" 1 false)`)
	mustScan(t, d, "mixed", 1, num(1), word(""), 4, `("b" 1 false) ("ö" 255 true) (`+fmt.Sprintf("%q", strings.Repeat("\U0010FFFF", 8))+` 9223372036854775807 false)`)
	mustScan(t, d, "mixed", 1, none(), num(math.MinInt), 4, `("abcdefgh" - -) ("zz" - -)`)
}
