package keys

import (
	"math/rand"
	"strings"
	"testing"
	"unicode/utf8"

	"headland/api"
)

const lastRune = 0x10FFFF

// pairs are all letters that Fold turns, each ahead of what it becomes.
const pairs = "AaBbCcDdEeFfGgHhIiJjKkLlMmNnOoPpQqRrSsTtUuVvWwXxYyZz" +
	"ÀàÁáÂâÃãÄäÅåÆæÇçÈèÉéÊêËëÌìÍíÎîÏïÐðÑñÒòÓóÔôÕõÖöØøÙùÚúÛûÜüÝýÞþ" +
	"ΑαΒβΓγΔδΕεΖζΗηΘθΙιΚκΛλΜμΝνΞξΟοΠπΡρΣσΤτΥυΦφΧχΨψΩω" +
	"АаБбВвГгДдЕеЖжЗзИиЙйКкЛлМмНнОоПпРрСсТтУуФфХхЦцЧчШшЩщЪъЫыЬьЭэЮюЯя"

// laidOut is a number's bytes in UTF-8's forms, so many bytes, whether it may stand there or not.
func laidOut(n, count int) string {
	if count == 1 {
		return string([]byte{byte(n)})
	}
	b := make([]byte, count)
	for i := count - 1; i > 0; i-- {
		b[i] = byte(0x80 | n&0x3F)
		n >>= 6
	}
	b[0] = byte(0xFF<<(8-count) | n)
	return string(b)
}

// oneForm is how many bytes a number's one form has.
func oneForm(n int) int {
	switch {
	case n < 0x80:
		return 1
	case n < 0x800:
		return 2
	case n < 0x10000:
		return 3
	}
	return 4
}

func isRune(n int) bool { return n >= 0 && n <= lastRune && (n < 0xD800 || n > 0xDFFF) }

// wrongTexts are no UTF-8.
func wrongTexts() map[string]string {
	return map[string]string{
		"overlong nought":            "\xC0\x80",
		"overlong a":                 "\xC1\xA1",
		"the last overlong of two":   "\xC1\xBF",
		"overlong nought of three":   "\xE0\x80\x80",
		"the last overlong of three": "\xE0\x9F\xBF",
		"overlong nought of four":    "\xF0\x80\x80\x80",
		"the last overlong of four":  "\xF0\x8F\xBF\xBF",
		"the first surrogate":        "\xED\xA0\x80",
		"a surrogate":                "\xED\xAF\xBF",
		"the last surrogate":         "\xED\xBF\xBF",
		"two surrogates of a rune":   "\xED\xA0\x81\xED\xB0\x80",
		"one above the last rune":    "\xF4\x90\x80\x80",
		"a rune of 1FFFFF":           "\xF7\xBF\xBF\xBF",
		"a rune of five bytes":       "\xF8\x88\x80\x80\x80",
		"a rune of six bytes":        "\xFC\x84\x80\x80\x80\x80",
		"a byte FE":                  "\xFE",
		"a byte FF":                  "\xFF",
		"a byte that goes on":        "\x80",
		"two that go on":             "\xBF\xBF",
		"one of two":                 "\xC3",
		"one of three":               "\xE2",
		"two of three":               "\xE2\x82",
		"one of four":                "\xF0",
		"two of four":                "\xF0\x90",
		"three of four":              "\xF0\x90\x90",
		"two of three, of FFFD":      "\xEF\xBF",
		"one of two, and a letter":   "\xC3a",
		"two of three, and a letter": "\xE2\x82a",
		"one too many":               "\xC3\xA4\x80",
	}
}

func TestRunesOfGivenTexts(t *testing.T) {
	for s, want := range map[string]int{
		"": 0, "a": 1, "abc": 3, "äöü": 3, "a\x00b": 3, "€": 1, "𐐀": 1, "aä€𐐀": 4, "\uFFFD": 1, "\uFFFD\uFFFD": 2, "\uD7FF\uE000": 2, "\U0010FFFF": 1, "\x7F\u0080\u07FF\u0800\uFFFF\U00010000": 6,
		strings.Repeat("ж", 5000): 5000,
	} {
		if got := Runes(s); got != want {
			t.Errorf("2.1: Runes(%q) is %d, not %d", s, got, want)
		}
	}
}

func TestWrongTexts(t *testing.T) {
	for why, wrong := range wrongTexts() {
		for _, s := range []string{wrong, "a" + wrong, wrong + "a", "ä" + wrong + "€", "\uFFFD" + wrong, wrong + "\uFFFD"} {
			if got := Runes(s); got != -1 {
				t.Errorf("2.1: %s: Runes(%q) is %d", why, s, got)
			}
			if got := Right(api.Value{Kind: api.Text, S: s}); got != api.ErrText {
				t.Errorf("2.1: %s: Right of %q: %d", why, s, got)
			}
			if b, e := Key(api.Value{Kind: api.Text, S: s}); len(b) != 0 || e != api.ErrText {
				t.Errorf("2.2: %s: Key of %q: %v, %d", why, s, b, e)
			}
			if got := Fold(s); got != "" {
				t.Errorf("2.4: %s: Fold(%q) is %q", why, s, got)
			}
		}
	}
}

func TestEachNumberInEachForm(t *testing.T) {
	room := map[int]int{1: 0x80, 2: 0x800, 3: 0x10000, 4: 0x200000}
	for count, end := range room {
		for n := range end {
			want := -1
			if isRune(n) && oneForm(n) == count {
				want = 1
			}
			if got := Runes(laidOut(n, count)); got != want {
				t.Fatalf("2.1: Runes of %X in %d bytes is %d, not %d", n, count, got, want)
			}
		}
	}
}

func TestRunesOfAnyBytes(t *testing.T) {
	r := rand.New(rand.NewSource(1))
	bytesThatMatter := []byte{0, 'a', 0x7F, 0x80, 0x8F, 0x90, 0x9F, 0xA0, 0xBD, 0xBF, 0xC0, 0xC2, 0xDF, 0xE0, 0xED, 0xEF, 0xF0, 0xF4, 0xF5, 0xFF}
	for range 200000 {
		b := make([]byte, r.Intn(9))
		for i := range b {
			b[i] = bytesThatMatter[r.Intn(len(bytesThatMatter))]
		}
		want := -1
		if utf8.Valid(b) {
			want = utf8.RuneCount(b)
		}
		if got := Runes(string(b)); got != want {
			t.Fatalf("2.1: Runes(%q) is %d, not %d", b, got, want)
		}
	}
}

// plainFold is which rune each great letter becomes, from the letters themselves.
func plainFold() map[rune]rune {
	m := map[rune]rune{}
	var great rune
	for i, r := range []rune(pairs) {
		if i%2 == 0 {
			great = r
		} else {
			m[great] = r
		}
	}
	return m
}

func TestFoldOfGivenTexts(t *testing.T) {
	for s, want := range map[string]string{
		"": "", "ÀΣЖx": "àσжx", "AZ": "az", "@[`{": "@[`{", "az09": "az09", "×÷": "×÷", "ÀÞ": "àþ", "¿ß": "¿ß", "ÖØ": "öø", "\u03A2": "\u03A2", "ΡΣ": "ρσ", "ΑΩ": "αω", "\u0390\u03AA": "\u0390\u03AA", "АЯ": "ая", "\u040F\u0430": "\u040F\u0430", "\uFFFD": "\uFFFD", "A\x00Z": "a\x00z", "𐐀": "𐐀", "Ā": "Ā", "Ё": "Ё", "ς": "ς",
	} {
		if got := Fold(s); got != want {
			t.Errorf("2.4: Fold(%q) is %q, not %q", s, got, want)
		}
	}
}

func TestFoldOfEachRune(t *testing.T) {
	small := plainFold()
	if len(small) != 26+30+24+32 {
		t.Fatalf("the letters of the test are %d", len(small))
	}
	for n := range lastRune + 1 {
		if !isRune(n) {
			continue
		}
		want := rune(n)
		if low, ok := small[want]; ok {
			want = low
		}
		got := Fold(string(rune(n)))
		if got != string(want) {
			t.Fatalf("2.4: Fold of %X is %q, not %q", n, got, string(want))
		}
		if Fold(got) != got || Runes(got) != 1 {
			t.Fatalf("2.6: Fold of %X, folded again, is %q", n, Fold(got))
		}
	}
}

func TestFoldOfLongerTexts(t *testing.T) {
	r := rand.New(rand.NewSource(2))
	small := plainFold()
	for range 5000 {
		s, want := "", ""
		for range r.Intn(12) {
			c := someRune(r)
			s += string(c)
			if low, ok := small[c]; ok {
				c = low
			}
			want += string(c)
		}
		got := Fold(s)
		if got != want {
			t.Fatalf("2.4: Fold(%q) is %q, not %q", s, got, want)
		}
		if Fold(got) != got || Runes(got) != Runes(s) {
			t.Fatalf("2.6: Fold(%q) is %q, folded again %q", s, got, Fold(got))
		}
	}
}

// someRune is often one at an edge of what the chapter names.
func someRune(r *rand.Rand) rune {
	edges := []rune{0, 0x40, 0x41, 0x5A, 0x5B, 0x61, 0x7F, 0x80, 0xBF, 0xC0, 0xD7, 0xDE, 0xDF, 0xF7, 0xFF, 0x100, 0x390, 0x391, 0x3A1, 0x3A2, 0x3A3, 0x3A9, 0x3AA, 0x40F, 0x410, 0x42F, 0x430, 0x44F, 0x7FF, 0x800, 0xD7FF, 0xE000, 0xFFFD, 0xFFFE, 0xFFFF, 0x10000, 0x1FFFF, 0xFFFFF, 0x100000, lastRune}
	switch r.Intn(3) {
	case 0:
		return edges[r.Intn(len(edges))]
	case 1:
		return rune('a' + r.Intn(3))
	}
	for {
		if n := r.Intn(lastRune + 1); isRune(n) {
			return rune(n)
		}
	}
}
