package wire

import (
	"math/bits"
	"math/rand"
	"slices"
	"testing"
)

// mostSummed is how many bytes promise 1.5 speaks of.
const mostSummed = 10000

// plainSum is the sum by the chapter's words.
func plainSum(b []byte) uint32 {
	r := uint32(0xFFFFFFFF)
	for _, c := range b {
		r ^= uint32(c)
		for range 8 {
			fell := r & 1
			r >>= 1
			if fell == 1 {
				r ^= 0x82F63B78
			}
		}
	}
	return ^r
}

func turn(b []byte, bit int) {
	b[bit/8] ^= 1 << (bit % 8)
}

func noise(seed int64, count int) []byte {
	b := make([]byte, count)
	rand.New(rand.NewSource(seed)).Read(b)
	return b
}

func TestSumOfGivenBytes(t *testing.T) {
	for text, want := range map[string]uint32{"": 0, "headland": 0x5BFE7128, "123456789": 0xE3069283} {
		if got := Sum([]byte(text)); got != want {
			t.Errorf("1.3: Sum of %q is %X, not %X", text, got, want)
		}
	}
	if Sum(nil) != 0 || Sum([]byte{}) != 0 {
		t.Error("1.3: Sum of nothing")
	}
}

func TestSumFollowsTheRule(t *testing.T) {
	for i := range 256 {
		for _, b := range [][]byte{{byte(i)}, {0, byte(i)}, {byte(i), 0, 0, byte(i)}, {1, 2, byte(i), 4, 5}} {
			if Sum(b) != plainSum(b) {
				t.Fatalf("1.3: Sum of %v", b)
			}
		}
	}
	b := noise(4, 8200)
	for n := range 1000 {
		if Sum(b[:n]) != plainSum(b[:n]) || Sum(b[n:2*n]) != plainSum(b[n:2*n]) {
			t.Fatalf("1.3: Sum of %d bytes", n)
		}
	}
	for _, n := range []int{4096, 8188, 8192, 8199} {
		if Sum(b[:n]) != plainSum(b[:n]) {
			t.Fatalf("1.3: Sum of %d bytes", n)
		}
		if zero := make([]byte, n); Sum(zero) != plainSum(zero) {
			t.Fatalf("1.3: Sum of %d bytes 0", n)
		}
	}
}

func TestSumTurnsWithOneToThreeBits(t *testing.T) {
	r := rand.New(rand.NewSource(5))
	for _, n := range []int{1, 2, 3, 4, 5, 8, 64, 1000, 8188, mostSummed} {
		b := noise(int64(n), n)
		was := Sum(b)
		for range 1000 {
			l := someBits(r, 8*n, 1+r.Intn(3))
			for _, bit := range l {
				turn(b, bit)
			}
			if Sum(b) == was {
				t.Fatalf("1.5: %d bytes with the bits %v turned have the same Sum", n, l)
			}
			for _, bit := range l {
				turn(b, bit)
			}
		}
	}
}

// someBits is so many unlike bits below an end.
func someBits(r *rand.Rand, end, count int) []int {
	var l []int
	for len(l) < count {
		if bit := r.Intn(end); !slices.Contains(l, bit) {
			l = append(l, bit)
		}
	}
	return l
}

func TestSumTurnsWithBitsThatFollowOneAnother(t *testing.T) {
	r := rand.New(rand.NewSource(6))
	for _, n := range []int{1, 2, 3, 4, 5, 8, 64, 1000, 8188, mostSummed} {
		b := noise(int64(n), n)
		was := Sum(b)
		for range 1000 {
			first, pattern := r.Intn(8*n), r.Uint32()|1
			pattern &= 1<<uint(min(8*n-first, 1+r.Intn(32))) - 1
			turnPattern(b, first, pattern)
			if Sum(b) == was {
				t.Fatalf("1.5: %d bytes with %b turned from the bit %d on have the same Sum", n, pattern, first)
			}
			turnPattern(b, first, pattern)
		}
	}
}

func turnPattern(b []byte, first int, pattern uint32) {
	for i := range 32 {
		if pattern>>i&1 == 1 {
			turn(b, first+i)
		}
	}
}

// TestSumTurnsWhicheverBitsTurn looks at each bit of the longest bytes. What turned bits turn in the Sum is what each of them turns, combined: so no one, two or three bits, and no bits within 32, may combine to nothing.
func TestSumTurnsWhicheverBitsTurn(t *testing.T) {
	turned := turnedByEachBit(noise(7, mostSummed))
	last := turned[len(turned)-1]
	at := map[uint32]int{}
	for i, s := range turned {
		if j, ok := at[s]; ok || s == 0 {
			t.Fatalf("1.5: the bits %d and %d turn the same", i, j)
		}
		at[s] = i
	}
	for i, s := range turned {
		// Three bits are as good as the same three moved down to the end, so the last one stands for any.
		if j, ok := at[s^last]; ok {
			t.Fatalf("1.5: the bits %d, %d and the last one turn nothing", i, j)
		}
	}
	for first := 0; first+32 <= len(turned); first++ {
		if !apart(turned[first : first+32]) {
			t.Fatalf("1.5: some bits within 32 from %d on turn nothing", first)
		}
	}
}

func turnedByEachBit(b []byte) []uint32 {
	was := Sum(b)
	l := make([]uint32, 8*len(b))
	for bit := range l {
		turn(b, bit)
		l[bit] = Sum(b) ^ was
		turn(b, bit)
	}
	return l
}

// apart is whether no choice of the numbers combines to 0.
func apart(l []uint32) bool {
	var byTop [33]uint32
	for _, s := range l {
		for s != 0 && byTop[bits.Len32(s)] != 0 {
			s ^= byTop[bits.Len32(s)]
		}
		if s == 0 {
			return false
		}
		byTop[bits.Len32(s)] = s
	}
	return true
}

func TestWhatTurnedBitsTurnIsCombined(t *testing.T) {
	r := rand.New(rand.NewSource(8))
	for range 2000 {
		n := 1 + r.Intn(400)
		a, b := noise(r.Int63(), n), noise(r.Int63(), n)
		both := make([]byte, n)
		for i := range both {
			both[i] = a[i] ^ b[i]
		}
		if Sum(a)^Sum(b)^Sum(both) != Sum(make([]byte, n)) {
			t.Fatalf("1.3: Sums of %d bytes do not combine", n)
		}
	}
}
