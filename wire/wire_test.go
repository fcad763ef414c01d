package wire

import (
	"bytes"
	"math"
	"math/rand"
	"testing"

	"headland/api"
)

// edges are the numbers at which the count of groups turns, their neighbours, and some between them.
func edges() []int {
	l := []int{0, 1, 2, 44, 126, 127, 128, 129, 255, 256, 300, 8191, 8192, 65535, 65536, 1 << 31, math.MaxInt - 1, math.MaxInt}
	for k := 2; k < mostGroups; k++ {
		n := 1 << (groupBits * k)
		l = append(l, n-1, n, n+1, n+n/2, 3*n)
	}
	r := rand.New(rand.NewSource(1))
	for range 300 {
		l = append(l, r.Int()>>r.Intn(63))
	}
	return l
}

// plainUint is a number's bytes by the chapter's words.
func plainUint(n int) []byte {
	b := []byte{byte(n % 128)}
	for n /= 128; n > 0; n /= 128 {
		b = append([]byte{byte(128 + n%128)}, b...)
	}
	return b
}

// roomy is the bytes with spare room behind them that is filled, so that a write into it shows.
func roomy(b ...byte) []byte {
	l := append(append(make([]byte, 0, len(b)+16), b...), bytes.Repeat([]byte{0xA5}, 16)...)
	return l[:len(b)]
}

// whole is a copy of the bytes and their spare room.
func whole(b []byte) []byte {
	return append([]byte(nil), b[:cap(b)]...)
}

// spoil turns all bytes of b, and its spare room.
func spoil(b []byte) {
	b = b[:cap(b)]
	for i := range b {
		b[i] ^= 0xFF
	}
}

func TestUintGivenForms(t *testing.T) {
	for _, c := range []struct {
		n int
		b []byte
	}{
		{0, []byte{0}},
		{1, []byte{1}},
		{127, []byte{127}},
		{128, []byte{129, 0}},
		{300, []byte{130, 44}},
		{16383, []byte{255, 127}},
		{16384, []byte{129, 128, 0}},
		{1<<56 - 1, []byte{255, 255, 255, 255, 255, 255, 255, 127}},
		{1 << 56, []byte{129, 128, 128, 128, 128, 128, 128, 128, 0}},
		{math.MaxInt, []byte{255, 255, 255, 255, 255, 255, 255, 255, 127}},
	} {
		if got := Uint(c.n); !bytes.Equal(got, c.b) {
			t.Errorf("1.1: Uint(%d) is %v, not %v", c.n, got, c.b)
		}
		if n, next, e := ReadUint(c.b, 0); n != c.n || next != len(c.b) || e != api.OK {
			t.Errorf("1.1: ReadUint(%v, 0) is %d, %d, %d", c.b, n, next, e)
		}
	}
}

func TestUintFollowsTheRule(t *testing.T) {
	for _, n := range edges() {
		if got, want := Uint(n), plainUint(n); !bytes.Equal(got, want) {
			t.Errorf("1.1: Uint(%d) is %v, not %v", n, got, want)
		}
	}
}

func TestUintBelowNought(t *testing.T) {
	for _, n := range []int{-1, -2, -128, math.MinInt + 1, math.MinInt} {
		if got := Uint(n); len(got) != 0 {
			t.Errorf("1.1: Uint(%d) is %v", n, got)
		}
	}
}

func TestReadUintRefusals(t *testing.T) {
	marked := func(count int) []byte { return bytes.Repeat([]byte{255}, count) }
	for _, c := range []struct {
		why string
		b   []byte
		at  int
		e   api.Errno
	}{
		{"at below 0", []byte{1}, -1, api.ErrArg},
		{"at far below 0", []byte{1}, math.MinInt, api.ErrArg},
		{"at one past the end", []byte{1}, 2, api.ErrArg},
		{"at far past the end", []byte{1}, math.MaxInt, api.ErrArg},
		{"at past nothing", nil, 1, api.ErrArg},
		{"at below nothing", nil, -1, api.ErrArg},
		{"at the end", []byte{1}, 1, api.ErrShort},
		{"nil", nil, 0, api.ErrShort},
		{"empty", []byte{}, 0, api.ErrShort},
		{"spare room is not read", roomy(129), 0, api.ErrShort},
		{"cut short", []byte{129}, 0, api.ErrShort},
		{"cut short in the middle", []byte{129, 128}, 0, api.ErrShort},
		{"cut short behind others", []byte{5, 5, 129}, 2, api.ErrShort},
		{"eight that all have a mark", marked(8), 0, api.ErrShort},
		{"first byte 128", []byte{128, 1}, 0, api.ErrForm},
		{"first byte 128 alone", []byte{128}, 0, api.ErrForm},
		{"first byte 128 of nought", []byte{128, 0}, 0, api.ErrForm},
		{"first byte 128 behind others", []byte{5, 128, 0}, 1, api.ErrForm},
		{"first byte 128 of nine", append([]byte{128}, append(marked(7), 127)...), 0, api.ErrForm},
		{"nine that all have a mark", marked(9), 0, api.ErrForm},
		{"nine of ten", append(marked(9), 0), 0, api.ErrForm},
		{"twelve", marked(12), 0, api.ErrForm},
		{"the last nine of twelve", marked(12), 3, api.ErrForm},
		{"the last eight of twelve", marked(12), 4, api.ErrShort},
		{"nine of which but the first are 128", append([]byte{129}, bytes.Repeat([]byte{128}, 8)...), 0, api.ErrForm},
	} {
		if n, next, e := ReadUint(c.b, c.at); n != 0 || next != 0 || e != c.e {
			t.Errorf("1.1: ReadUint, %s: %d, %d, %d; not 0, 0, %d", c.why, n, next, e, c.e)
		}
	}
}

func TestUintIsReadWhereverItStands(t *testing.T) {
	for _, n := range edges() {
		for ahead := range 12 {
			for behind := range 4 {
				b := append(bytes.Repeat([]byte{200}, ahead), Uint(n)...)
				end := len(b)
				b = append(b, bytes.Repeat([]byte{129}, behind)...)
				if m, next, e := ReadUint(b, ahead); m != n || next != end || e != api.OK {
					t.Fatalf("1.4: ReadUint(%v, %d) is %d, %d, %d", b, ahead, m, next, e)
				}
			}
		}
		for cut := range Uint(n) {
			if m, next, e := ReadUint(Uint(n)[:cut], 0); m != 0 || next != 0 || e != api.ErrShort {
				t.Fatalf("1.1: the first %d bytes of Uint(%d) are read as %d, %d, %d", cut, n, m, next, e)
			}
		}
	}
}

func TestWhatIsReadIsWrittenJustSo(t *testing.T) {
	check := func(b []byte) {
		n, next, e := ReadUint(b, 0)
		if e == api.OK && (n < 0 || !bytes.Equal(Uint(n), b[:next])) {
			t.Fatalf("1.4: %v is read as %d, %d; Uint: %v", b, n, next, Uint(n))
		}
	}
	for i := range 1 << 16 {
		check([]byte{byte(i >> 8), byte(i)})
		check([]byte{byte(i >> 8), byte(i), 0})
		check([]byte{byte(i >> 8), 128, byte(i)})
		check([]byte{255, byte(i >> 8), 128, 128, 255, 128, byte(i), 127})
	}
	r := rand.New(rand.NewSource(2))
	for range 20000 {
		b := make([]byte, 1+r.Intn(11))
		r.Read(b)
		for i := range b {
			if r.Intn(3) > 0 {
				b[i] |= mark
			}
		}
		check(b)
	}
}

func TestNoNumberBeginsAnother(t *testing.T) {
	l := edges()
	for _, m := range l {
		for _, n := range l {
			a, b := Uint(m), Uint(n)
			if m != n && bytes.HasPrefix(b, a) {
				t.Fatalf("1.4: Uint(%d), %v, begins Uint(%d), %v", m, a, n, b)
			}
			if len(a) == len(b) && (bytes.Compare(a, b) < 0) != (m < n) {
				t.Fatalf("1.4: Uint(%d), %v, and Uint(%d), %v, are not in order", m, a, n, b)
			}
		}
	}
	for n := range 70000 {
		a, b := Uint(n), Uint(n+1)
		if len(a) > len(b) || len(a) == len(b) && bytes.Compare(a, b) >= 0 || bytes.HasPrefix(b, a) {
			t.Fatalf("1.4: Uint(%d), %v, and the next one, %v", n, a, b)
		}
	}
}

func TestBytes(t *testing.T) {
	r := rand.New(rand.NewSource(3))
	for _, count := range []int{0, 1, 2, 126, 127, 128, 129, 300, 1800, 16383, 16384, 16385} {
		s := make([]byte, count)
		r.Read(s)
		b := Bytes(s)
		if want := append(plainUint(count), s...); !bytes.Equal(b, want) {
			t.Fatalf("1.2: Bytes of %d", count)
		}
		for _, ahead := range []int{0, 1, 9} {
			for _, most := range []int{count, count + 1, math.MaxInt} {
				l := append(append(bytes.Repeat([]byte{255}, ahead), b...), 7, 7)
				got, next, e := ReadBytes(l, ahead, most)
				if !bytes.Equal(got, s) || next != ahead+len(b) || e != api.OK {
					t.Fatalf("1.4: ReadBytes of %d at %d, at most %d: %d, %d", count, ahead, most, next, e)
				}
				if back := Bytes(got); !bytes.Equal(back, l[ahead:next]) {
					t.Fatalf("1.4: %d bytes that were read are not written just so", count)
				}
			}
		}
		if got, next, e := ReadBytes(b, 0, count-1); len(got) != 0 || next != 0 || count > 0 && e != api.ErrLong || count == 0 && e != api.ErrArg {
			t.Fatalf("1.2: ReadBytes of %d, at most one less: %d", count, e)
		}
		if got, next, e := ReadBytes(b[:len(b)-1], 0, count); len(got) != 0 || next != 0 || e != api.ErrShort {
			t.Fatalf("1.2: ReadBytes of %d, one cut off: %d", count, e)
		}
	}
}

func TestBytesOfNothing(t *testing.T) {
	for _, s := range [][]byte{nil, {}} {
		if b := Bytes(s); !bytes.Equal(b, []byte{0}) {
			t.Errorf("1.2: Bytes of none: %v", b)
		}
	}
	if s, next, e := ReadBytes([]byte{0}, 0, 0); len(s) != 0 || next != 1 || e != api.OK {
		t.Errorf("1.2: ReadBytes of none: %v, %d, %d", s, next, e)
	}
}

func TestReadBytesRefusals(t *testing.T) {
	for _, c := range []struct {
		why      string
		b        []byte
		at, most int
		e        api.Errno
	}{
		{"at below 0", []byte{0}, -1, 9, api.ErrArg},
		{"at past the end", []byte{1, 7}, 3, 9, api.ErrArg},
		{"at far past the end", []byte{1, 7}, math.MaxInt, 9, api.ErrArg},
		{"at the end", []byte{1, 7}, 2, 9, api.ErrShort},
		{"nil", nil, 0, 9, api.ErrShort},
		{"nil, most below 0", nil, 0, -1, api.ErrShort},
		{"no count", []byte{129}, 0, -1, api.ErrShort},
		{"a count of wrong form", []byte{128, 7}, 0, 9, api.ErrForm},
		{"a count of wrong form, most below 0", []byte{128, 7}, 0, -1, api.ErrForm},
		{"most below 0", []byte{1, 7}, 0, -1, api.ErrArg},
		{"most below 0, of none", []byte{0}, 0, -1, api.ErrArg},
		{"most far below 0", []byte{9}, 0, math.MinInt, api.ErrArg},
		{"more than most", []byte{1, 7}, 0, 0, api.ErrLong},
		{"more than most, and cut short", []byte{9, 7}, 0, 3, api.ErrLong},
		{"cut short", []byte{2, 7}, 0, 9, api.ErrShort},
		{"cut short, just most", []byte{2, 7}, 0, 2, api.ErrShort},
		{"none behind the count", []byte{2}, 0, 2, api.ErrShort},
		{"spare room is not read", roomy(2, 7), 0, 9, api.ErrShort},
		{"the greatest count", append(Uint(math.MaxInt), 7), 0, math.MaxInt, api.ErrShort},
		{"the greatest count, behind others", append([]byte{7, 7}, Uint(math.MaxInt)...), 2, math.MaxInt, api.ErrShort},
	} {
		if s, next, e := ReadBytes(c.b, c.at, c.most); len(s) != 0 || next != 0 || e != c.e {
			t.Errorf("1.2: ReadBytes, %s: %v, %d, %d; not none, 0, %d", c.why, s, next, e, c.e)
		}
	}
}

func TestWhatIsHandedInStays(t *testing.T) {
	calls := map[string]func(b []byte){
		"ReadUint":  func(b []byte) { ReadUint(b, 1) },
		"Bytes":     func(b []byte) { Bytes(b) },
		"ReadBytes": func(b []byte) { ReadBytes(b, 1, 9) },
		"Sum":       func(b []byte) { Sum(b) },
	}
	for name, call := range calls {
		for _, b := range [][]byte{roomy(9, 3, 1, 2, 3, 4, 5), roomy(9, 0), roomy(9, 5, 1), roomy(9, 128), roomy()} {
			was := whole(b)
			call(b)
			if !bytes.Equal(whole(b), was) {
				t.Errorf("rule 2: %s turned what was handed in: %v, was %v", name, whole(b), was)
			}
		}
	}
}

func TestAnswersAreNewMemory(t *testing.T) {
	spoil(Uint(300))
	if b := Uint(300); !bytes.Equal(b, []byte{130, 44}) {
		t.Errorf("rule 2: Uint's answer is kept: %v", b)
	}
	in := roomy(1, 2, 3)
	was := whole(in)
	out := Bytes(in)
	spoil(out)
	if !bytes.Equal(whole(in), was) {
		t.Error("rule 2: Bytes' answer shares what was handed in")
	}
	out = Bytes(in)
	spoil(in)
	if !bytes.Equal(out, []byte{3, 1, 2, 3}) {
		t.Error("rule 2: what was handed in to Bytes shows in its answer")
	}
	for _, in := range [][]byte{roomy(3, 1, 2, 3), roomy(3, 1, 2, 3, 4), roomy(0), roomy(0, 9)} {
		was := whole(in)
		out, _, _ := ReadBytes(in, 0, 9)
		want := append([]byte(nil), out...)
		spoil(out)
		if !bytes.Equal(whole(in), was) {
			t.Error("rule 2: ReadBytes' answer shares what was handed in")
		}
		out, _, _ = ReadBytes(in, 0, 9)
		spoil(in)
		if !bytes.Equal(out, want) {
			t.Error("rule 2: what was handed in to ReadBytes shows in its answer")
		}
	}
}
