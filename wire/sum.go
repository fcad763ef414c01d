package wire

const (
	registerBits = 32
	byteBits     = 8

	// feedback is what a set bit that falls out of the register turns in it.
	feedback = 0x82F63B78
)

// Sum is the check sum. Every page that is read is summed whole, so four bytes go through the register at once.
func Sum(b []byte) uint32 {
	t := newTraces()
	r := ^uint32(0)
	words := len(b) / 4
	for i := range words {
		r = t.past(r ^ word(b[4*i:]))
	}
	for _, c := range b[4*words:] {
		r ^= uint32(c)
		for range byteBits {
			r = shift(r)
		}
	}
	return ^r
}

// shift lets the register's lowest bit fall out.
func shift(r uint32) uint32 {
	if r&1 == 0 {
		return r >> 1
	}
	return r>>1 ^ feedback
}

// word is the first four bytes, as they meet the register: the first one at its lowest bits.
func word(b []byte) uint32 {
	return uint32(b[0]) | uint32(b[1])<<8 | uint32(b[2])<<16 | uint32(b[3])<<24
}

// traces tells what is left, when all bits of the register have fallen out, of each value of each four of them.
// A shift of two registers combined is their shifts combined, so what is left of a register is what is left of its parts, combined.
type traces [8][16]uint32

func newTraces() traces {
	var t traces
	// The highest bit falls out last, and leaves the feedback as it is; each lower one's is shifted once more.
	r := uint32(feedback)
	for i := range registerBits {
		bit := registerBits - 1 - i
		t[bit/4][1<<(bit%4)] = r
		r = shift(r)
	}
	for k := range t {
		for v := range t[k] {
			lowest := v & -v
			t[k][v] = t[k][v-lowest] ^ t[k][lowest]
		}
	}
	return t
}

// past is the register when all its bits have fallen out.
func (t *traces) past(r uint32) uint32 {
	return t[0][r&15] ^ t[1][r>>4&15] ^ t[2][r>>8&15] ^ t[3][r>>12&15] ^
		t[4][r>>16&15] ^ t[5][r>>20&15] ^ t[6][r>>24&15] ^ t[7][r>>28]
}
