// Package wire is numbers, texts and a check sum: see DOC.md, chapter 1.
package wire

import (
	"math/bits"

	"headland/api"
)

const (
	// A group's bits; a byte's highest bit, the mark, says that more groups follow.
	groupBits = 7
	group     = 1<<groupBits - 1
	mark      = 1 << groupBits

	// Nine groups have the 63 bits that a number from 0 on can have.
	mostGroups = 9
)

// Uint is a number's bytes.
func Uint(n int) []byte {
	if n < 0 {
		return nil
	}
	count := groups(n)
	b := make([]byte, count)
	for i := range count {
		below := groupBits * (count - 1 - i)
		b[i] = byte(n>>below&group | mark)
	}
	b[count-1] &= group
	return b
}

// groups is how many groups a number has; that of 0 is one, although none of its bits is set.
func groups(n int) int {
	return (bits.Len(uint(n|1)) + groupBits - 1) / groupBits
}

// ReadUint reads a number.
func ReadUint(b []byte, at int) (n, next int, e api.Errno) {
	if at < 0 || at > len(b) {
		return 0, 0, api.ErrArg
	}
	for i := range mostGroups {
		if at+i == len(b) {
			return 0, 0, api.ErrShort
		}
		c := b[at+i]
		// An empty first group would give the number a second form.
		if i == 0 && c == mark {
			return 0, 0, api.ErrForm
		}
		n = n<<groupBits | int(c&group)
		if c < mark {
			return n, at + i + 1, api.OK
		}
	}
	return 0, 0, api.ErrForm
}

// Bytes is bytes, how many ahead.
func Bytes(s []byte) []byte {
	return append(Uint(len(s)), s...)
}

// ReadBytes reads at most so many.
func ReadBytes(b []byte, at, most int) (s []byte, next int, e api.Errno) {
	count, from, e := ReadUint(b, at)
	switch {
	case e != api.OK:
		return nil, 0, e
	case most < 0:
		return nil, 0, api.ErrArg
	case count > most:
		return nil, 0, api.ErrLong
	case count > len(b)-from:
		return nil, 0, api.ErrShort
	}
	s = make([]byte, count)
	copy(s, b[from:])
	return s, from + count, api.OK
}
