package keys

import (
	"unicode/utf8"

	"headland/api"
)

const (
	numberSize = 8
	runeSize   = 3
	highest    = 1 << 63 // turned, it puts the numbers below 0 ahead of the others
)

func kindByte(kind int) byte { return byte(kind + 1) }

func appendHeld(b []byte, h any) []byte {
	b = append(b, kindByte(release(h).Kind))
	if n, ok := h.(number); ok {
		return appendHigh(b, uint64(n)^highest, numberSize)
	}
	if t, ok := h.(truth); ok {
		return append(b, byte(t.number()))
	}
	if s, ok := h.(text); ok {
		for _, r := range s {
			b = appendHigh(b, uint64(r)+1, runeSize)
		}
		return appendHigh(b, 0, runeSize)
	}
	return b
}

// appendHigh lays down the last bytes of a number, the highest first.
func appendHigh(b []byte, n uint64, size int) []byte {
	for i := range size {
		b = append(b, byte(n>>(8*(size-1-i))))
	}
	return b
}

func readHigh(b []byte, size int) (n uint64, ok bool) {
	if len(b) < size {
		return 0, false
	}
	for _, c := range b[:size] {
		n = n<<8 | uint64(c)
	}
	return n, true
}

// readHeld reads the first value, and says how many bytes it has.
func readHeld(b []byte) (h any, size int, ok bool) {
	rest := b[1:]
	switch b[0] {
	case kindByte(api.Nothing):
		return nothing{}, 1, true
	case kindByte(api.Int):
		n, ok := readHigh(rest, numberSize)
		return number(n ^ highest), 1 + numberSize, ok
	case kindByte(api.Bool):
		n, ok := readHigh(rest, 1)
		return truth(n == 1), 2, ok && n <= 1
	case kindByte(api.Text):
		s, size, ok := readText(rest)
		return s, 1 + size, ok
	}
	return nil, 0, false
}

func readText(b []byte) (s text, size int, ok bool) {
	var runes []byte
	for {
		n, ok := readHigh(b[size:], runeSize)
		if !ok {
			return "", 0, false
		}
		size += runeSize
		if n == 0 {
			return text(runes), size, true
		}
		r := rune(n - 1)
		if !utf8.ValidRune(r) {
			return "", 0, false
		}
		runes = utf8.AppendRune(runes, r)
	}
}
