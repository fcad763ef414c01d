package page

import (
	"bytes"
	"math/rand"
	"testing"

	"headland/api"
	"headland/disk"
	"headland/wire"
)

// pageBlock is a page's block by the chapter's words: a count, bytes and what stands behind them, under their sum.
func pageBlock(count int, content []byte) []byte {
	rest := make([]byte, 8188)
	rest[0], rest[1] = byte(count>>8), byte(count)
	copy(rest[2:], content)
	return append(summed(rest), rest...)
}

func summed(rest []byte) []byte {
	sum := wire.Sum(rest)
	return []byte{byte(sum >> 24), byte(sum >> 16), byte(sum >> 8), byte(sum)}
}

func TestPutLaysTheBlock(t *testing.T) {
	for _, b := range [][]byte{nil, {0}, {7}, []byte("ab"), filled(255, 1), filled(256, 2), filled(257, 3), filled(8185, 4), filled(8186, 5)} {
		s, d := newStore(t, 4)
		mustTell(t, d.Write(2, filled(8192, 9)), api.OK, "3.2: Write")
		mustPut(t, s, b, 2)
		mustBlock(t, d, 2, pageBlock(len(b), b), "4.2: Put")
		mustBlock(t, d, 0, nil, "4.2: Put writes one block")
		mustBlock(t, d, 1, nil, "4.2: Put writes one block")
		mustBlock(t, d, 3, nil, "4.2: Put writes one block")
		if d.Open() != 2 {
			t.Fatalf("4.2: %d open writes behind a Put and one other", d.Open())
		}
	}
}

func TestGetOfWhatPutDoesNotLay(t *testing.T) {
	whole := pageBlock(2, []byte("ab"))
	long := pageBlock(8186, filled(8186, 1))
	for why, b := range map[string][]byte{
		"bytes 0":                           nil,
		"bytes 255":                         bytes.Repeat([]byte{255}, 8192),
		"no block of a page":                []byte("some bytes"),
		"a head":                            laidHead(1, 2),
		"no bytes, another sum":             with(pageBlock(0, nil), 3, pageBlock(0, nil)[3]^1),
		"one byte too few counted":          pageBlock(1, []byte("ab")),
		"none counted":                      pageBlock(0, []byte("a")),
		"8,187 bytes counted":               pageBlock(8187, filled(8186, 1)),
		"8,187 bytes 0 counted":             pageBlock(8187, nil),
		"32,768 bytes counted":              pageBlock(32768, nil),
		"65,535 bytes counted":              pageBlock(65535, filled(8186, 1)),
		"all but one counted":               pageBlock(8185, filled(8186, 1)),
		"a byte right behind them":          pageBlock(2, []byte{'a', 'b', 1}),
		"a byte far behind them":            pageBlock(2, with([]byte("ab"), 5000, 1)),
		"a byte at the end of the block":    pageBlock(2, with([]byte("ab"), 8185, 1)),
		"a last byte behind none":           pageBlock(0, with(nil, 8185, 128)),
		"the sum's bytes the lowest first":  append([]byte{whole[3], whole[2], whole[1], whole[0]}, whole[4:]...),
		"the count's bytes turned round":    append(append(bytes.Clone(whole[:4]), 2, 0), whole[6:]...),
		"the sum of the bytes alone":        append(summed([]byte("ab")), whole[4:]...),
		"the sum of count and bytes alone":  append(summed([]byte{0, 2, 'a', 'b'}), whole[4:]...),
		"another sum":                       append([]byte{1, 2, 3, 4}, whole[4:]...),
		"a full one of another sum":         append([]byte{1, 2, 3, 4}, long[4:]...),
		"a full one, its last byte another": with(long, 8191, 0),
		"torn within the sum":               whole[:3],
		"torn within the count":             whole[:5],
		"torn within the bytes":             whole[:7],
		"torn at the full one's last byte":  long[:8191],
	} {
		s, d := newStore(t, 4)
		mustTell(t, d.Write(3, b), api.OK, "3.2: Write")
		mustNotGet(t, s, 3, api.ErrCorrupt, "4.2: "+why)
		mustTell(t, s.Hold(3), api.OK, "4.2: Hold")
		mustTell(t, s.Commit(3), api.OK, "4.3: Commit")
		mustNotGet(t, s, 3, api.ErrCorrupt, "4.2: "+why)
	}
}

func TestGetOfWhatPutWouldLay(t *testing.T) {
	for _, b := range [][]byte{nil, {0}, {0, 0}, []byte("ab"), make([]byte, 8186), filled(8186, 1)} {
		s, d := newStore(t, 4)
		mustTell(t, d.Write(3, pageBlock(len(b), b)), api.OK, "3.2: Write")
		mustGet(t, s, 3, b, "4.2: a block that another one laid")
	}
}

// flipAll turns bits of a page's block, looks whether it is told, and turns them back.
func flipAll(t *testing.T, s *Store, d *disk.Disk, id int, bits ...int) {
	t.Helper()
	for _, bit := range bits {
		mustTell(t, d.Flip(id, bit), api.OK, "3.4: Flip")
	}
	if b, e := s.Get(id); e != api.ErrCorrupt || len(b) != 0 {
		t.Fatalf("4.6: the bits %v of a page turned: %d bytes, %d", bits, len(b), e)
	}
	for _, bit := range bits {
		d.Flip(id, bit)
	}
}

// turnedPages is a Store with pages of many sizes, from page 2 on.
func turnedPages(t *testing.T) (*Store, *disk.Disk, [][]byte) {
	t.Helper()
	l := [][]byte{nil, []byte("ab"), make([]byte, 100), filled(4000, 1), filled(8186, 2)}
	s, d := newStore(t, len(l)+2)
	for i, b := range l {
		mustPut(t, s, b, 2+i)
	}
	mustTell(t, s.Commit(2), api.OK, "4.3: Commit")
	return s, d, l
}

func mustReadAll(t *testing.T, s *Store, l [][]byte) {
	t.Helper()
	for i, b := range l {
		mustGet(t, s, 2+i, b, "4.6: bits that are turned back")
	}
}

func TestATurnedBit(t *testing.T) {
	s, d, l := turnedPages(t)
	for i := range l {
		for bit := range 8 * api.Block {
			if bit < 80 || bit >= 65500 || bit%61 == i {
				flipAll(t, s, d, 2+i, bit)
			}
		}
	}
	mustReadAll(t, s, l)
}

func TestTwoAndThreeTurnedBits(t *testing.T) {
	s, d, l := turnedPages(t)
	r := rand.New(rand.NewSource(46))
	spans := []int{32, 48, 64, 400, 8 * api.Block}
	for i := range l {
		for range 1500 {
			a, b, c := r.Intn(spans[r.Intn(5)]), r.Intn(spans[r.Intn(5)]), r.Intn(spans[r.Intn(5)])
			if a == b || a == c || b == c {
				continue
			}
			flipAll(t, s, d, 2+i, a, b)
			flipAll(t, s, d, 2+i, a, b, c)
		}
	}
	for a := 28; a < 52; a++ {
		for b := 28; b < a; b++ {
			flipAll(t, s, d, 3, a, b)
			flipAll(t, s, d, 3, a, b, 65535)
		}
	}
	mustReadAll(t, s, l)
}

// burst is bits within 32 from a place on, that one among them.
func burst(r *rand.Rand, from, end int) []int {
	bits := []int{from}
	for bit := from + 1; bit < min(from+32, end); bit++ {
		if r.Intn(2) == 0 {
			bits = append(bits, bit)
		}
	}
	return bits
}

func TestBitsOfABurst(t *testing.T) {
	const sum, end = 32, 8 * api.Block
	s, d, l := turnedPages(t)
	r := rand.New(rand.NewSource(64))
	for i := range l {
		for from := range sum {
			flipAll(t, s, d, 2+i, burst(r, from, sum)...)
		}
		for range 1500 {
			flipAll(t, s, d, 2+i, burst(r, sum+r.Intn(end-sum), end)...)
		}
		for from := sum; from < sum+64; from++ {
			flipAll(t, s, d, 2+i, burst(r, from, end)...)
			flipAll(t, s, d, 2+i, burst(r, end-1-from, end)...)
		}
	}
	mustReadAll(t, s, l)
}

// TestATurnedBitOfAnOpenWrite: it is told ahead of the flush as well, and behind it.
func TestATurnedBitOfAnOpenWrite(t *testing.T) {
	s, d := newStore(t, 4)
	mustPut(t, s, []byte("ab"), 2)
	flipAll(t, s, d, 2, 50)
	d.Flip(2, 51)
	mustNotGet(t, s, 2, api.ErrCorrupt, "4.6: a turned bit")
	mustTell(t, s.Commit(2), api.OK, "4.3: Commit")
	mustNotGet(t, s, 2, api.ErrCorrupt, "4.6: a turned bit behind a Commit")
	s = mustOpen(t, d, 2, 1)
	mustNotGet(t, s, 2, api.ErrCorrupt, "4.6: a turned bit behind an Open")
}
