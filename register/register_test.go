package register

import (
	"bytes"
	"fmt"
	"math"
	"slices"
	"strings"
	"testing"

	"headland/api"
	"headland/disk"
)

func TestNew(t *testing.T) {
	mustNotNew(t, nil, api.ErrArg, "no store")
	d := newDisk(t, 60)
	s := openStore(t, d)
	g := mustNew(t, s)
	if s.Number() != 0 || s.Len(15) != 0 || d.Open() != 0 {
		t.Error("7.1: New changes the store")
	}
	mustKnow(t, g, s, plain{}, "7.1: of a new store")
	all := []call{prepare(1, 9), accept(1, 9, "a"), prepare(1, 17), prepare(0, 3), accept(16, 5, strings.Repeat("v", 1800)), accept(7, 1, "")}
	mustDo(t, g, all...)
	want := plain{}.of(all...)
	mustKnow(t, mustNew(t, s), s, want, "7.1: what an earlier register laid down")
	mustFind(t, d, want, "7.1: what an earlier register laid down")
	number := s.Number()
	mustNew(t, s)
	if s.Number() != number {
		t.Error("7.1: New changes the store")
	}
	d.Cut(disk.Loss{Torn: -1})
	mustNotNew(t, s, api.ErrDown, "a dead store")
	d.Restart()
	mustNotNew(t, s, api.ErrDown, "a dead store whose disk has power again")
	mustFind(t, d, want, "7.3: opened anew")
}

func TestExample(t *testing.T) {
	g, _, d := newRegister(t, 60)
	mustAnswer(t, g.Prepare(1, 9), api.Answer{Tail: 9}, "7.2: Prepare(1, 9)")
	mustAnswer(t, g.Accept(1, 8, []byte("a")), api.Answer{Err: api.ErrOwner, Tail: 9}, "7.2: Accept(1, 8, a)")
	mustAnswer(t, g.Accept(1, 9, []byte("a")), api.Answer{Tail: 9}, "7.2: Accept(1, 9, a)")
	mustAnswer(t, g.Prepare(1, 17), api.Answer{Tail: 17, Ballot: 9, Value: []byte("a")}, "7.2: Prepare(1, 17)")
	mustFind(t, d, plain{1: {17, 9, "a"}}, "7.3: opened anew")
}

// TestPrepareAndAccept goes from one call to the next; each answer is told whole.
func TestPrepareAndAccept(t *testing.T) {
	owner := func(tail, ballot int, value string) api.Answer {
		return api.Answer{Err: api.ErrOwner, Tail: tail, Ballot: ballot, Value: []byte(value)}
	}
	ok := func(tail, ballot int, value string) api.Answer {
		return api.Answer{Tail: tail, Ballot: ballot, Value: []byte(value)}
	}
	longest := strings.Repeat("v", 1799) + "w"
	for _, all := range [][]struct {
		call
		want api.Answer
	}{
		{ // a version that is promised alone
			{prepare(2, 1), ok(1, 0, "")}, {prepare(2, 1), owner(1, 0, "")}, {prepare(2, 2), ok(2, 0, "")}, {prepare(2, 1), owner(2, 0, "")},
			{prepare(2, 9), ok(9, 0, "")}, {prepare(2, 8), owner(9, 0, "")}, {prepare(2, 9), owner(9, 0, "")}, {prepare(2, 10), ok(10, 0, "")},
		},
		{ // Accept at, one below and one above what is promised
			{prepare(3, 9), ok(9, 0, "")}, {accept(3, 8, "a"), owner(9, 0, "")}, {prepare(3, 9), owner(9, 0, "")}, {accept(3, 9, "b"), ok(9, 0, "")},
			{prepare(3, 9), owner(9, 9, "b")}, {prepare(3, 8), owner(9, 9, "b")}, {accept(3, 8, "c"), owner(9, 0, "")}, {accept(3, 10, "d"), ok(10, 0, "")},
			{prepare(3, 10), owner(10, 10, "d")}, {accept(3, 9, "e"), owner(10, 0, "")}, {prepare(3, 11), ok(11, 10, "d")}, {prepare(3, 12), ok(12, 10, "d")},
			{accept(3, 11, "f"), owner(12, 0, "")}, {accept(3, 12, "g"), ok(12, 0, "")}, {prepare(3, 13), ok(13, 12, "g")},
		},
		{ // no Prepare ahead
			{accept(4, 1, "a"), ok(1, 0, "")}, {prepare(4, 1), owner(1, 1, "a")}, {accept(4, 5, "b"), ok(5, 0, "")}, {accept(4, 4, "c"), owner(5, 0, "")},
			{prepare(4, 5), owner(5, 5, "b")}, {prepare(4, 6), ok(6, 5, "b")},
		},
		{ // one ballot, other values
			{accept(5, 7, "a"), ok(7, 0, "")}, {accept(5, 7, "bb"), ok(7, 0, "")}, {prepare(5, 7), owner(7, 7, "bb")}, {accept(5, 7, ""), ok(7, 0, "")},
			{prepare(5, 7), owner(7, 7, "")}, {accept(5, 7, "a"), ok(7, 0, "")}, {accept(5, 7, "a"), ok(7, 0, "")}, {prepare(5, 8), ok(8, 7, "a")},
		},
		{ // no byte, one, and as many as may be
			{accept(0, 1, ""), ok(1, 0, "")}, {prepare(0, 2), ok(2, 1, "")}, {accept(0, 3, longest), ok(3, 0, "")}, {prepare(0, 3), owner(3, 3, longest)},
			{prepare(0, 4), ok(4, 3, longest)}, {accept(0, 4, "\x00"), ok(4, 0, "")}, {prepare(0, 5), ok(5, 4, "\x00")}, {accept(0, 5, longest), ok(5, 0, "")},
			{accept(0, 6, ""), ok(6, 0, "")}, {prepare(0, 7), ok(7, 6, "")},
		},
		{ // great ballots
			{prepare(16, 127), ok(127, 0, "")}, {prepare(16, 128), ok(128, 0, "")}, {accept(16, 1<<31, "a"), ok(1<<31, 0, "")}, {prepare(16, 1<<62), ok(1<<62, 1<<31, "a")},
			{accept(16, 1<<62, longest), ok(1<<62, 0, "")}, {prepare(16, math.MaxInt), ok(math.MaxInt, 1<<62, longest)}, {prepare(16, math.MaxInt), owner(math.MaxInt, 1<<62, longest)},
			{accept(16, math.MaxInt-1, "b"), owner(math.MaxInt, 0, "")}, {accept(16, math.MaxInt, longest), ok(math.MaxInt, 0, "")}, {prepare(16, math.MaxInt), owner(math.MaxInt, math.MaxInt, longest)},
		},
	} {
		g, s, d := newRegister(t, 80)
		var p plain
		for i, c := range all {
			number := s.Number()
			mustAnswer(t, c.of(g), c.want, fmt.Sprintf("7.2: call %d, %s", i, c.call))
			_, p = p.answer(c.call)
			if made := s.Number() - number; made != 1 && c.want.Err == api.OK || made != 0 && c.want.Err != api.OK {
				t.Fatalf("7.2: %s is %d Commits", c.call, made)
			}
			mustKnow(t, g, s, p, "7.2: "+c.call.String())
			mustFind(t, d, p, "7.3: opened anew behind "+c.call.String())
			if i%2 == 1 {
				g, s = opened(t, d)
			}
		}
	}
}

// TestWrongOnes: what may not be asked, and which error is told where two would do.
func TestWrongOnes(t *testing.T) {
	g, s, d := newRegister(t, 80)
	all := []call{prepare(0, 5), accept(1, 5, "a"), accept(16, 9, "b"), prepare(16, 12)}
	mustDo(t, g, all...)
	want, number := plain{}.of(all...), s.Number()
	long, longer := strings.Repeat("v", 1801), strings.Repeat("v", 9000)
	refused := func(c call, e api.Errno) {
		t.Helper()
		mustAnswer(t, c.of(g), api.Answer{Err: e}, "7.2: "+c.String())
	}
	for _, version := range []int{-1, 17, 18, 255, 256, 257, -256, math.MinInt, math.MaxInt} {
		for _, ballot := range []int{1, 5, 99, 0, -1, math.MaxInt} {
			refused(prepare(version, ballot), api.ErrArg)
			for _, value := range []string{"", "a", long} {
				refused(accept(version, ballot, value), api.ErrArg)
			}
		}
	}
	for _, version := range []int{0, 1, 2, 16} {
		for _, ballot := range []int{0, -1, -5, math.MinInt} {
			refused(prepare(version, ballot), api.ErrArg)
			for _, value := range []string{"", "a", long} {
				refused(accept(version, ballot, value), api.ErrArg)
			}
		}
		for _, ballot := range []int{1, 4, 5, 6, 11, 12, 13, math.MaxInt} {
			refused(accept(version, ballot, long), api.ErrLong)
			refused(accept(version, ballot, longer), api.ErrLong)
		}
	}
	if s.Number() != number || d.Open() != 0 {
		t.Error("rule 4: a refused call writes")
	}
	mustKnow(t, g, s, want, "rule 4: behind refusals")
	mustFind(t, d, want, "rule 4: behind refusals, opened anew")
}

// TestOtherVersions: a call leaves the other versions as they are, and all else that the store has.
func TestOtherVersions(t *testing.T) {
	d := newDisk(t, 200)
	s := openStore(t, d)
	var others []api.Change
	for i := range 15 {
		for _, key := range []string{"\x00", "\x01", "\x01\x00", "\x10"} {
			others = append(others, api.Change{Pair: api.Pair{Space: i, Key: []byte(key), Value: fmt.Append(nil, i)}})
		}
	}
	if e := s.Apply(33, others); e != api.OK {
		t.Fatalf("6.3: Apply: %d", e)
	}
	rest := func() string {
		l, pos, e := s.Export()
		l = slices.DeleteFunc(l, func(p api.Pair) bool { return p.Space == 15 })
		return fmt.Sprint(l, pos, e)
	}
	was := rest()
	g := mustNew(t, s)
	mustKnow(t, g, s, plain{}, "7.1: other spaces are not the register's")
	var p plain
	for round := range 3 {
		for version := range p {
			c := prepare(version, 10*round+version+1)
			if (version+round)%3 == 0 {
				c = accept(version, 10*round+version+2, strings.Repeat(string(rune('a'+version)), 100*version))
			}
			mustDo(t, g, c)
			_, p = p.answer(c)
			mustKnow(t, g, s, p, "7.2: "+c.String())
		}
	}
	if rest() != was || s.Pos() != 33 || s.Len(15) == 0 {
		t.Error("7.2: a register changes what is not in its space")
	}
	mustFind(t, d, p, "7.3: opened anew")
}

// TestTwoRegistersOfAStore: what the one promised holds for the other.
func TestTwoRegistersOfAStore(t *testing.T) {
	g, s, d := newRegister(t, 60)
	other := mustNew(t, s)
	mustDo(t, g, prepare(1, 9))
	mustAnswer(t, other.Prepare(1, 5), api.Answer{Err: api.ErrOwner, Tail: 9}, "7.3: another register of the store")
	mustAnswer(t, other.Accept(1, 8, []byte("a")), api.Answer{Err: api.ErrOwner, Tail: 9}, "7.3: another register of the store")
	mustDo(t, other, accept(1, 9, "b"))
	mustAnswer(t, g.Prepare(1, 10), api.Answer{Tail: 10, Ballot: 9, Value: []byte("b")}, "7.3: another register of the store")
	mustAnswer(t, other.Accept(1, 9, []byte("c")), api.Answer{Err: api.ErrOwner, Tail: 10}, "7.3: another register of the store")
	mustFind(t, d, plain{1: {10, 9, "b"}}, "7.3: opened anew")
}

func TestMemory(t *testing.T) {
	g, s, d := newRegister(t, 60)
	want := plain{}
	for version, length := range []int{0, 1, 9, 1800} {
		room := append(bytes.Repeat([]byte{'v'}, length), bytes.Repeat([]byte{0xee}, 40)...)
		handed := bytes.Clone(room)
		if a := g.Accept(version, 5, room[:length]); a.Err != api.OK {
			t.Fatalf("7.2: Accept: %s", told(a))
		}
		g.Accept(version, 4, room[:length])
		if !bytes.Equal(room, handed) {
			t.Error("rule 2: Accept changes what is handed in")
		}
		spoil(room)
		want[version] = known{5, 5, strings.Repeat("v", length)}
	}
	mustKnow(t, g, s, want, "rule 2: what was handed in is not kept")
	mustSpoil(t, g, 3, "rule 2: an answer that was overwritten")
	d.Cut(disk.Loss{Torn: -1})
	mustSpoil(t, g, 3, "rule 2: what was handed in, and an answer that was overwritten, without power")
	d.Restart()
	g, s = mustFind(t, d, want, "rule 2: opened anew")
	a := g.Prepare(3, 6)
	spoil(a.Value[:cap(a.Value)])
	want[3].promised = 6
	mustKnow(t, g, s, want, "rule 2: an answer that was overwritten")
	mustSpoil(t, g, 3, "rule 2: an answer that was overwritten")
}

// TestMemoryWithoutPower: what was handed in, and what was answered, last ahead of the loss may be overwritten.
func TestMemoryWithoutPower(t *testing.T) {
	for _, length := range []int{1, 1800} {
		g, _, d := newRegister(t, 60)
		value := bytes.Repeat([]byte{'v'}, length)
		want := api.Answer{Err: api.ErrOwner, Tail: 5, Ballot: 5, Value: bytes.Clone(value)}
		g.Accept(1, 5, value)
		spoil(value)
		d.Cut(disk.Loss{Torn: -1})
		mustAnswer(t, g.Prepare(1, 1), want, "rule 2: what was handed in is not kept")
		d.Restart()
		g, _ = opened(t, d)
		a := g.Prepare(1, 9)
		spoil(a.Value[:cap(a.Value)])
		d.Cut(disk.Loss{Torn: -1})
		want.Tail = 9
		mustAnswer(t, g.Prepare(1, 1), want, "rule 2: an answer that was overwritten")
	}
}

// mustSpoil says that an answer, its spare room too, may be overwritten: others stay as they are.
func mustSpoil(t *testing.T, g *Register, version int, why string) {
	t.Helper()
	first, second := g.Prepare(version, 1), g.Prepare(version, 1)
	want := second
	want.Value = bytes.Clone(second.Value)
	spoil(first.Value[:cap(first.Value)])
	mustAnswer(t, second, want, why)
	mustAnswer(t, g.Prepare(version, 1), want, why)
	if len(want.Value) != 1800 || bytes.Count(want.Value, []byte{'v'}) != 1800 {
		t.Fatalf("%s: %s", why, told(want))
	}
}

func spoil(b []byte) {
	for i := range b {
		b[i] = '#'
	}
}

// TestOneForm: a store has one form, however its register came to know what it knows.
func TestOneForm(t *testing.T) {
	var forms []string
	for _, all := range [][]call{
		{accept(1, 9, "a"), prepare(1, 12), prepare(2, 3)},
		{prepare(2, 3), prepare(1, 9), accept(1, 9, "a"), prepare(1, 12)},
		{accept(1, 4, "longer"), accept(1, 9, "a"), prepare(1, 11), prepare(2, 2), prepare(1, 12), prepare(2, 3)},
		{prepare(2, 1), prepare(2, 2), accept(1, 9, ""), prepare(2, 3), accept(1, 9, "a"), prepare(1, 12)},
	} {
		g, s, _ := newRegister(t, 60)
		mustDo(t, g, all...)
		l, pos, e := s.Export()
		forms = append(forms, fmt.Sprint(l, pos, e))
	}
	if len(slices.Compact(forms)) != 1 {
		t.Errorf("rule 7: %d forms", len(slices.Compact(forms)))
	}
}

// TestPairsThatNoRegisterLaidDown in the places of its own: New tells it, and so does a register that was there, of that version alone.
func TestPairsThatNoRegisterLaidDown(t *testing.T) {
	long := strings.Repeat("\xff", 8)
	for i, l := range [][]string{ // keys and values
		{"\x01", ""}, {"\x01", "\x05"}, {"\x01", "\x00\x00"}, {"\x01", "\x00\x05"}, {"\x01", "\x05\x06"}, {"\x01", "\x05\x00\x00"}, {"\x01", "\x80\x05"}, {"\x01", "\x05\x80"},
		{"\x01", "\x81"}, {"\x01", "\x05\x81"}, {"\x01", long + "\xff\x00"}, {"\x01", long + "\x7f"}, {"\x01", "\x05" + long + "\x7f"}, {"\x01", "value"},
		{"\x00", "\x05\x05"}, {"\x10", "\x05\x04"}, {"\x10", "\x05\x05", "\x0f\x00", "a"},
		{"\x01", "\x05\x06", "\x01\x00", "a"}, {"\x01", "\x05\x05\x00", "\x01\x00", "a"}, {"\x01", "\x05\x80", "\x01\x00", "a"}, {"\x01", "\x80\x05", "\x01\x00", "a"},
	} {
		g, s, _ := newRegister(t, 60)
		mustDo(t, g, prepare(9, 9))
		var changes []api.Change
		for i := 0; i < len(l); i += 2 {
			changes = append(changes, api.Change{Pair: api.Pair{Space: 15, Key: []byte(l[i]), Value: []byte(l[i+1])}})
		}
		if e := s.Apply(0, changes); e != api.OK {
			t.Fatalf("6.3: Apply: %d", e)
		}
		why := fmt.Sprint("7.1: list ", i)
		mustNotNew(t, s, api.ErrCorrupt, why)
		number, version := s.Number(), int(l[0][0])
		for _, c := range []call{prepare(version, 9), prepare(version, 1), accept(version, 9, "v"), accept(version, 1, "")} {
			mustAnswer(t, c.of(g), api.Answer{Err: api.ErrCorrupt}, why+", "+c.String())
		}
		mustAnswer(t, g.Accept(version, 9, make([]byte, 1801)), api.Answer{Err: api.ErrLong}, why)
		mustAnswer(t, g.Prepare(version, 0), api.Answer{Err: api.ErrArg}, why)
		mustAnswer(t, g.Prepare(9, 9), api.Answer{Err: api.ErrOwner, Tail: 9}, why+", another version")
		if s.Number() != number {
			t.Errorf("rule 4: %s: behind ErrCorrupt the store is changed", why)
		}
	}
}

// TestAPageThatDoesNotRead: it is told, and nothing else; turned back, all is as it was.
func TestAPageThatDoesNotRead(t *testing.T) {
	g, s, d := newRegister(t, 60)
	var want plain
	for version := range want {
		c := accept(version, version+1, strings.Repeat("v", 50*version))
		if version%4 == 0 {
			c = prepare(version, 9)
		}
		mustDo(t, g, c)
		_, want = want.answer(c)
	}
	met := 0
	for id := 2; id < 60; id++ {
		d.Flip(id, 99)
		wrong := 0
		for version, k := range want {
			a := g.Prepare(version, 1)
			if a.Err == api.ErrCorrupt {
				wrong++
				mustAnswer(t, a, api.Answer{Err: api.ErrCorrupt}, "7.2: a page that does not read")
				mustAnswer(t, g.Accept(version, 99, []byte("v")), api.Answer{Err: api.ErrCorrupt}, "7.2: a page that does not read")
				continue
			}
			mustAnswer(t, a, api.Answer{Err: api.ErrOwner, Tail: k.promised, Ballot: k.ballot, Value: []byte(k.value)}, "7.2: a page that is not on the way")
		}
		if wrong > 0 {
			met++
			mustNotNew(t, s, api.ErrCorrupt, "a page that does not read")
		} else {
			mustNew(t, s)
		}
		d.Flip(id, 99)
	}
	if met < 5 {
		t.Errorf("7.1: %d pages were met", met)
	}
	mustKnow(t, g, s, want, "rule 4: behind ErrCorrupt, turned back")
	mustFind(t, d, want, "rule 4: behind ErrCorrupt, turned back")
}
