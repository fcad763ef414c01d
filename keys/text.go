package keys

import (
	"cmp"
	"strings"
	"unicode/utf8"
)

// smallAbove is how much higher the small letter stands than the great one.
const smallAbove = 32

// Runes is how many runes a text has.
func Runes(s string) int {
	count := 0
	for i, r := range s {
		if r == utf8.RuneError && !strings.HasPrefix(s[i:], string(utf8.RuneError)) {
			// Ranging tells the same rune of bytes that are none; they are none unless the rune itself stands there.
			return -1
		}
		count++
	}
	return count
}

// Fold makes letters small.
func Fold(s string) string {
	if Runes(s) < 0 {
		return ""
	}
	var b strings.Builder
	for _, r := range s {
		b.WriteRune(foldRune(r))
	}
	return b.String()
}

func foldRune(r rune) rune {
	switch {
	case r == 0xD7 || r == 0x3A2:
		return r
	case isWithin(r, 'A', 'Z'), isWithin(r, 0xC0, 0xDE), isWithin(r, 0x391, 0x3A9), isWithin(r, 0x410, 0x42F):
		return r + smallAbove
	}
	return r
}

func isWithin(r, first, last rune) bool { return first <= r && r <= last }

// compareTexts ends for texts that are no UTF-8 too: of any byte that begins no rune one byte is gone past.
func compareTexts(a, b string) int {
	for _, r := range a {
		if b == "" {
			return 1
		}
		other, size := utf8.DecodeRuneInString(b)
		if r != other {
			return cmp.Compare(r, other)
		}
		b = b[size:]
	}
	if b != "" {
		return -1
	}
	return 0
}
