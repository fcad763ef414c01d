package keys

import (
	"bytes"
	"math"
	"math/rand"
	"slices"
	"testing"

	"headland/api"
)

func none() api.Value          { return api.Value{} }
func num(n int) api.Value      { return api.Value{Kind: api.Int, N: n} }
func word(s string) api.Value  { return api.Value{Kind: api.Text, S: s} }
func isTrue(n int) api.Value   { return api.Value{Kind: api.Bool, N: n} }
func list(l ...api.Value) vals { return l }

type vals = []api.Value

// edgeNumbers are the ends of all whole numbers, the turns of their bytes, and what is about nought.
func edgeNumbers() []int {
	l := []int{math.MinInt, math.MinInt + 1, -300, -256, -255, -2, -1, 0, 1, 2, 127, 128, 255, 256, 300, math.MaxInt - 1, math.MaxInt}
	for k := 8; k < 63; k += 8 {
		l = append(l, 1<<k-1, 1<<k, -1<<k, -1<<k-1)
	}
	return l
}

func edgeTexts() []string {
	return []string{"", "a", "aa", "ab", "b", "a\x00", "\x00", "\x00\x00", "\x7F", "\u0080", "ä", "\u07FF", "\u0800", "€", "\uD7FF", "\uE000", "\uFFFD", "\uFFFF", "\U00010000", "𐐀", "\U0010FFFF", "\U0010FFFFa", "aä€𐐀", "ÀΣЖx"}
}

// edgeValues are Right, and unlike.
func edgeValues() []api.Value {
	l := []api.Value{none(), isTrue(0), isTrue(1)}
	for _, n := range edgeNumbers() {
		l = append(l, num(n))
	}
	for _, s := range edgeTexts() {
		l = append(l, word(s))
	}
	return l
}

func wrongValues() map[string]api.Value {
	return map[string]api.Value{
		"a kind below all":               {Kind: -1},
		"a kind above all":               {Kind: 4},
		"the least kind":                 {Kind: math.MinInt},
		"the greatest kind":              {Kind: math.MaxInt},
		"a kind above all, with all":     {Kind: 4, N: 1, S: "a"},
		"a kind that is Int in one byte": {Kind: 256 + api.Int},
		"Nothing with N":                 {N: 1},
		"Nothing with N below 0":         {N: -1},
		"Nothing with S":                 {S: "a"},
		"Nothing with both":              {N: 1, S: "a"},
		"Nothing with S that is none":    {S: "\xFF"},
		"Int with S":                     {Kind: api.Int, N: 1, S: "a"},
		"Int with S and no N":            {Kind: api.Int, S: "\x00"},
		"Int with S that is none":        {Kind: api.Int, S: "\xFF"},
		"Bool with S":                    {Kind: api.Bool, N: 1, S: "a"},
		"Bool with S, false":             {Kind: api.Bool, S: "a"},
		"Bool of 2":                      {Kind: api.Bool, N: 2},
		"Bool of -1":                     {Kind: api.Bool, N: -1},
		"Bool of 257":                    {Kind: api.Bool, N: 257},
		"Bool of the least":              {Kind: api.Bool, N: math.MinInt},
		"Bool of the greatest":           {Kind: api.Bool, N: math.MaxInt},
		"Text with N":                    {Kind: api.Text, N: 1, S: "a"},
		"Text with N and no S":           {Kind: api.Text, N: -1},
		"Text with N, and S is none":     {Kind: api.Text, N: 1, S: "\xFF"},
	}
}

func TestRight(t *testing.T) {
	for _, v := range edgeValues() {
		if e := Right(v); e != api.OK {
			t.Errorf("2.1: Right of %v: %d", v, e)
		}
	}
	for why, v := range wrongValues() {
		if e := Right(v); e != api.ErrArg {
			t.Errorf("2.1: Right, %s: %d", why, e)
		}
		if b, e := Key(v); len(b) != 0 || e != api.ErrArg {
			t.Errorf("2.2: Key, %s: %v, %d", why, b, e)
		}
	}
}

func TestKeyGivenForms(t *testing.T) {
	for _, c := range []struct {
		l vals
		b []byte
	}{
		{nil, nil},
		{vals{}, nil},
		{list(none()), []byte{1}},
		{list(num(1)), []byte{2, 128, 0, 0, 0, 0, 0, 0, 1}},
		{list(num(0)), []byte{2, 128, 0, 0, 0, 0, 0, 0, 0}},
		{list(num(-1)), []byte{2, 127, 255, 255, 255, 255, 255, 255, 255}},
		{list(num(math.MinInt)), []byte{2, 0, 0, 0, 0, 0, 0, 0, 0}},
		{list(num(math.MaxInt)), []byte{2, 255, 255, 255, 255, 255, 255, 255, 255}},
		{list(num(0x0102030405060708)), []byte{2, 129, 2, 3, 4, 5, 6, 7, 8}},
		{list(word("")), []byte{3, 0, 0, 0}},
		{list(word("a")), []byte{3, 0, 0, 98, 0, 0, 0}},
		{list(word("\x00")), []byte{3, 0, 0, 1, 0, 0, 0}},
		{list(word("ÿ€")), []byte{3, 0, 1, 0, 0, 0x20, 0xAD, 0, 0, 0}},
		{list(word("\uFFFF\U0010FFFF")), []byte{3, 1, 0, 0, 17, 0, 0, 0, 0, 0}},
		{list(isTrue(0)), []byte{4, 0}},
		{list(isTrue(1)), []byte{4, 1}},
		{list(none(), isTrue(1)), []byte{1, 4, 1}},
		{list(word("a"), word(""), none(), num(-1), isTrue(0)), []byte{3, 0, 0, 98, 0, 0, 0, 3, 0, 0, 0, 1, 2, 127, 255, 255, 255, 255, 255, 255, 255, 4, 0}},
	} {
		if b, e := Key(c.l...); !bytes.Equal(b, c.b) || e != api.OK {
			t.Errorf("2.2: Key of %v is %v, %d; not %v", c.l, b, e, c.b)
		}
		if l, e := Read(c.b); !slices.Equal(l, c.l) || e != api.OK {
			t.Errorf("2.2: Read of %v is %v, %d; not %v", c.b, l, e, c.l)
		}
	}
	if l, e := Read([]byte{}); len(l) != 0 || e != api.OK {
		t.Errorf("2.2: Read of none is %v, %d", l, e)
	}
}

func TestKeyTellsTheFirstError(t *testing.T) {
	arg, noText := isTrue(2), word("\xFF")
	for _, c := range []struct {
		l vals
		e api.Errno
	}{
		{list(arg), api.ErrArg},
		{list(noText), api.ErrText},
		{list(arg, noText), api.ErrArg},
		{list(noText, arg), api.ErrText},
		{list(num(1), none(), noText, arg, num(2)), api.ErrText},
		{list(num(1), word("a"), arg, noText), api.ErrArg},
		{list(word("a"), word("b"), word("c"), word("d"), noText), api.ErrText},
	} {
		if b, e := Key(c.l...); len(b) != 0 || e != c.e {
			t.Errorf("2.2: Key of %v is %v, %d; not none, %d", c.l, b, e, c.e)
		}
	}
}

func TestReadRefusals(t *testing.T) {
	for why, b := range map[string][]byte{
		"kind's byte 0":                {0},
		"kind's byte 5":                {5},
		"kind's byte 255":              {255},
		"kind's byte 0 behind one":     {1, 0},
		"kind's byte 9 behind one":     {1, 9},
		"bytes left over":              {4, 1, 1, 7},
		"a nought left over":           {3, 0, 0, 0, 0},
		"a Bool without its byte":      {4},
		"a Bool of 2":                  {4, 2},
		"a Bool of 255":                {4, 255},
		"a Bool of 2 behind one":       {4, 0, 4, 2},
		"an Int of no byte":            {2},
		"an Int of three":              {2, 1, 2, 3},
		"an Int of seven":              {2, 128, 0, 0, 0, 0, 0, 0},
		"an Int of nine":               {2, 128, 0, 0, 0, 0, 0, 0, 1, 0},
		"a Text of no byte":            {3},
		"a Text of one":                {3, 0},
		"a Text of two":                {3, 0, 0},
		"a Text without its end":       {3, 0, 0, 98},
		"a Text of one byte of an end": {3, 0, 0, 98, 0},
		"a Text of two of an end":      {3, 0, 0, 98, 0, 0},
		"the first surrogate":          {3, 0, 0xD8, 1, 0, 0, 0},
		"the last surrogate":           {3, 0, 0xE0, 0, 0, 0, 0},
		"a surrogate behind a rune":    {3, 0, 0, 98, 0, 0xDC, 1, 0, 0, 0},
		"a rune above the last":        {3, 0x11, 0, 1, 0, 0, 0},
		"the greatest three bytes":     {3, 255, 255, 255, 0, 0, 0},
		"a wrong rune and no end":      {3, 0x11, 0, 1},
		"spare room is not read":       roomy(4),
		"nor of an Int":                roomy(2, 1),
		"nor of a Text":                roomy(3, 0, 0, 98),
	} {
		if l, e := Read(b); len(l) != 0 || e != api.ErrForm {
			t.Errorf("2.2: Read, %s: %v, %d", why, l, e)
		}
	}
}

func TestReadOfEachRunesBytes(t *testing.T) {
	check := func(n int) {
		b := []byte{3, byte(n >> 16), byte(n >> 8), byte(n), 0, 0, 0}
		l, e := Read(b)
		if isRune(n - 1) {
			if e != api.OK || len(l) != 1 || l[0] != word(string(rune(n-1))) {
				t.Fatalf("2.2: Read of %v is %v, %d", b, l, e)
			}
		} else if e != api.ErrForm || len(l) != 0 {
			t.Fatalf("2.2: Read of %v is %v, %d", b, l, e)
		}
	}
	for n := 1; n < 0x111000; n++ {
		check(n)
	}
	r := rand.New(rand.NewSource(3))
	for range 50000 {
		check(1 + r.Intn(1<<24-1))
	}
}

func TestEachKeyCutShort(t *testing.T) {
	for _, v := range edgeValues() {
		b := mustKey(t, v)
		for cut := 1; cut < len(b); cut++ {
			if l, e := Read(b[:cut]); len(l) != 0 || e != api.ErrForm {
				t.Errorf("2.2: Read of the first %d bytes of %v's Key: %v, %d", cut, v, l, e)
			}
			if l, e := Read(append([]byte{4, 1}, b[:cut]...)); len(l) != 0 || e != api.ErrForm {
				t.Errorf("2.2: Read of another Key and the first %d bytes of %v's: %v, %d", cut, v, l, e)
			}
		}
	}
}

func TestWhatIsReadIsWrittenJustSo(t *testing.T) {
	check := func(b []byte) {
		l, e := Read(b)
		if e != api.OK && (e != api.ErrForm || len(l) != 0) {
			t.Fatalf("2.2: Read of %v: %v, %d", b, l, e)
		}
		if back, e2 := Key(l...); e == api.OK && (e2 != api.OK || !bytes.Equal(back, b)) {
			t.Fatalf("2.2: %v is read as %v, whose Key is %v, %d", b, l, back, e2)
		}
	}
	for i := range 1 << 16 {
		check([]byte{byte(i >> 8), byte(i)})
		check([]byte{3, byte(i >> 8), byte(i), 1, 0, 0, 0})
		check([]byte{1, byte(i >> 8), 128, 0, byte(i), 0, 0, 0, 0, 0, 0})
	}
	r := rand.New(rand.NewSource(4))
	for range 100000 {
		b := mustKey(t, someList(r)...)
		if len(b) == 0 {
			continue
		}
		switch at := r.Intn(len(b)); r.Intn(4) {
		case 0:
			b[at] = byte(r.Intn(6))
		case 1:
			b[at] = byte(r.Intn(256))
		case 2:
			b = b[:at]
		case 3:
			b = append(b[:at], b[at+1:]...)
		}
		check(b)
	}
}

func mustKey(t *testing.T, l ...api.Value) []byte {
	t.Helper()
	b, e := Key(l...)
	if e != api.OK {
		t.Fatalf("2.2: Key of %v: %d", l, e)
	}
	return b
}

func someList(r *rand.Rand) vals {
	l := vals{}
	for range r.Intn(5) {
		l = append(l, someValue(r))
	}
	return l
}

func someValue(r *rand.Rand) api.Value {
	edges := edgeNumbers()
	switch r.Intn(6) {
	case 0:
		return none()
	case 1:
		return isTrue(r.Intn(2))
	case 2:
		return num(edges[r.Intn(len(edges))])
	case 3:
		return num(int(r.Uint64()) >> r.Intn(64))
	}
	s := ""
	for range r.Intn(4) {
		s += string(someRune(r))
	}
	return word(s)
}

func TestCompareGivenLists(t *testing.T) {
	for _, c := range []struct {
		a, b vals
		want int
	}{
		{nil, nil, 0},
		{nil, vals{}, 0},
		{nil, list(none()), -1},
		{list(word("b")), list(word("aa")), 1},
		{list(word("")), list(word("")), 0},
		{list(word("")), list(word("a")), -1},
		{list(word("a")), list(word("a\x00")), -1},
		{list(word("ab")), list(word("aab")), 1},
		{list(word("\uFFFF")), list(word("\U00010000")), -1},
		{list(word("z")), list(word("ä")), -1},
		{list(word("Z")), list(word("a")), -1},
		{list(num(math.MinInt)), list(num(math.MaxInt)), -1},
		{list(num(math.MaxInt)), list(num(-1)), 1},
		{list(num(-2)), list(num(-1)), -1},
		{list(num(7)), list(num(7)), 0},
		{list(isTrue(0)), list(isTrue(1)), -1},
		{list(isTrue(1)), list(isTrue(1)), 0},
		{list(none()), list(none()), 0},
		{list(none()), list(num(math.MinInt)), -1},
		{list(num(math.MaxInt)), list(word("")), -1},
		{list(word("\U0010FFFF")), list(isTrue(0)), -1},
		{list(isTrue(0)), list(none()), 1},
		{list(num(1)), list(num(1), none()), -1},
		{list(num(2)), list(num(1), none()), 1},
		{list(num(1), word("a"), isTrue(1)), list(num(1), word("a"), isTrue(0)), 1},
		{list(num(1), word("a"), isTrue(1)), list(num(1), word("b"), isTrue(0)), -1},
	} {
		if got := Compare(c.a, c.b); got != c.want {
			t.Errorf("2.3: Compare of %v and %v is %d, not %d", c.a, c.b, got, c.want)
		}
		if got := Compare(c.b, c.a); got != -c.want {
			t.Errorf("2.3: Compare of %v and %v is %d, not %d", c.b, c.a, got, -c.want)
		}
	}
}

// plainCompare is the order by the chapter's words.
func plainCompare(a, b vals) int {
	for i := 0; i < len(a) && i < len(b); i++ {
		if c := plainCompareOne(a[i], b[i]); c != 0 {
			return c
		}
	}
	return plainOrder(len(a), len(b))
}

func plainCompareOne(a, b api.Value) int {
	if c := plainOrder(a.Kind, b.Kind); c != 0 {
		return c
	}
	if c := plainOrder(a.N, b.N); c != 0 {
		return c
	}
	return slices.Compare([]rune(a.S), []rune(b.S))
}

func plainOrder(a, b int) int {
	if a < b {
		return -1
	}
	if a > b {
		return 1
	}
	return 0
}

func checkOrder(t *testing.T, a, b vals) {
	t.Helper()
	want := plainCompare(a, b)
	if got := Compare(a, b); got != want {
		t.Fatalf("2.3: Compare of %v and %v is %d, not %d", a, b, got, want)
	}
	left, right := mustKey(t, a...), mustKey(t, b...)
	if got := bytes.Compare(left, right); got != want {
		t.Fatalf("2.5: the Keys of %v and %v, %v and %v, are in another order than they", a, b, left, right)
	}
	if bytes.Equal(left, right) != slices.Equal(a, b) {
		t.Fatalf("2.5: unlike lists %v and %v have like Keys", a, b)
	}
}

func TestCompareIsTheOrderOfKeys(t *testing.T) {
	l := edgeValues()
	for _, a := range l {
		for _, b := range l {
			checkOrder(t, list(a), list(b))
			checkOrder(t, list(a), list(a, b))
			checkOrder(t, list(a, none()), list(b))
			checkOrder(t, list(num(0), a), list(num(0), b, none()))
			if left, right := mustKey(t, a), mustKey(t, b); a != b && bytes.HasPrefix(right, left) {
				t.Fatalf("2.5: %v's Key begins %v's: %v, %v", a, b, left, right)
			}
		}
	}
	r := rand.New(rand.NewSource(5))
	for range 50000 {
		a, b := someList(r), someList(r)
		if r.Intn(2) == 0 {
			b = append(slices.Clone(a[:r.Intn(len(a)+1)]), b...)
		}
		checkOrder(t, a, b)
		if x, y := someValue(r), someValue(r); x != y && bytes.HasPrefix(mustKey(t, y), mustKey(t, x)) {
			t.Fatalf("2.5: %v's Key begins %v's", x, y)
		}
	}
}

func TestReadOfKeyIsTheList(t *testing.T) {
	check := func(l vals) {
		if back, e := Read(mustKey(t, l...)); e != api.OK || !slices.Equal(back, l) {
			t.Fatalf("2.5: Read of the Key of %v is %v, %d", l, back, e)
		}
	}
	all := edgeValues()
	check(all)
	for _, v := range all {
		check(list(v))
		check(list(v, v))
	}
	r := rand.New(rand.NewSource(6))
	for range 50000 {
		check(someList(r))
	}
}

// TestCompareEnds: of values that are not Right nothing else is promised.
func TestCompareEnds(t *testing.T) {
	all := edgeValues()
	for _, v := range wrongValues() {
		all = append(all, v)
	}
	for _, s := range wrongTexts() {
		all = append(all, word(s), word("a"+s), word(s+"a"))
	}
	for _, a := range all {
		for _, b := range all {
			if c := Compare(list(a, b), list(b, a)); c < -1 || c > 1 {
				t.Fatalf("2.3: Compare of %v and %v is %d", a, b, c)
			}
		}
	}
}

// roomy is the bytes with spare room behind them that is filled, so that a write into it shows.
func roomy(b ...byte) []byte {
	l := append(append(make([]byte, 0, len(b)+16), b...), bytes.Repeat([]byte{1}, 16)...)
	return l[:len(b)]
}

func roomyList(l ...api.Value) vals {
	full := append(slices.Clone(l), num(77), word("spare"), isTrue(1))
	return slices.Clip(full)[:len(l)]
}

// whole is a copy of a list and its spare room.
func whole[T any](l []T) []T { return slices.Clone(l[:cap(l)]) }

// spoil lays another one over all of a list, and its spare room.
func spoil[T any](l []T, with T) {
	l = l[:cap(l)]
	for i := range l {
		l[i] = with
	}
}

func TestWhatIsHandedInStays(t *testing.T) {
	for _, l := range []vals{roomyList(), roomyList(num(1)), roomyList(num(1), word("Aä"), none(), isTrue(1)), roomyList(isTrue(2), word("\xFF"))} {
		was := whole(l)
		other := roomyList(num(1), word("Ab"))
		otherWas := whole(other)
		Key(l...)
		Compare(l, other)
		Compare(other, l)
		if !slices.Equal(whole(l), was) || !slices.Equal(whole(other), otherWas) {
			t.Errorf("rule 2: a list that was handed in was turned: %v, was %v", whole(l), was)
		}
	}
	for _, b := range [][]byte{roomy(), roomy(1), roomy(3, 0, 0, 98, 0, 0, 0, 4, 1), roomy(4), roomy(3, 0, 0), roomy(2, 1, 2, 3, 4, 5, 6, 7, 8)} {
		was := whole(b)
		Read(b)
		if !bytes.Equal(whole(b), was) {
			t.Errorf("rule 2: bytes that were handed in were turned: %v, was %v", whole(b), was)
		}
	}
}

func TestAnswersAreNewMemory(t *testing.T) {
	in := roomyList(num(1), word("Aä"), none(), isTrue(1))
	b := mustKey(t, in...)
	want := bytes.Clone(b)
	spoil(b, 9)
	if again := mustKey(t, in...); !bytes.Equal(again, want) {
		t.Errorf("rule 2: Key's answer is kept: %v", again)
	}
	b = mustKey(t, in...)
	values := slices.Clone(in)
	spoil(in, num(5))
	if !bytes.Equal(b, want) {
		t.Error("rule 2: what was handed in to Key shows in its answer")
	}

	from := roomy(want...)
	was := whole(from)
	l, _ := Read(from)
	spoil(from, 7)
	if !slices.Equal(l, values) {
		t.Errorf("rule 2: what was handed in to Read shows in its answer: %v", l)
	}
	copy(from[:cap(from)], was)
	spoil(l, num(5))
	if again, _ := Read(from); !slices.Equal(again, values) || !bytes.Equal(whole(from), was) {
		t.Errorf("rule 2: Read's answer is kept: %v", again)
	}
}
