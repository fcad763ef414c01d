package register

import (
	"bytes"
	"fmt"
	"math/rand"
	"strings"
	"testing"

	"headland/api"
	"headland/disk"
	"headland/local"
)

// mustBeDead says what the register of a dead store is answered: what is wrong, and who comes too late, is told ahead of that; nothing is changed.
func mustBeDead(t *testing.T, g *Register, s *local.Store, was plain, why string) {
	t.Helper()
	if !s.Dead() {
		t.Fatalf("6.2: %s: the store is not dead", why)
	}
	long := strings.Repeat("v", 1801)
	for range 2 {
		for version, k := range was {
			for _, ballot := range []int{k.promised - 1, k.promised, k.promised + 1, k.promised + 9} {
				for _, c := range []call{prepare(version, ballot), accept(version, ballot, "new"), accept(version, ballot, ""), accept(version, ballot, long)} {
					want, _ := was.answer(c)
					if want.Err == api.OK {
						want = api.Answer{Err: api.ErrDown}
					}
					mustAnswer(t, c.of(g), want, why+": "+c.String())
				}
			}
		}
	}
	mustAnswer(t, g.Prepare(17, 1), api.Answer{Err: api.ErrArg}, why)
	mustAnswer(t, g.Accept(-1, 1, nil), api.Answer{Err: api.ErrArg}, why)
	mustNotNew(t, s, api.ErrDown, "a dead store")
}

func TestDead(t *testing.T) {
	for _, all := range [][]call{
		nil,
		{prepare(1, 9)},
		{accept(2, 5, "a"), prepare(2, 7), prepare(0, 3), accept(16, 1, ""), prepare(16, 2)},
	} {
		g, s, d := newRegister(t, 60)
		mustDo(t, g, all...)
		was := plain{}.of(all...)
		d.Cut(disk.Loss{Keep: keepAll, Torn: -1})
		mustBeDead(t, g, s, was, "7.2: without power")
		d.Restart()
		mustBeDead(t, g, s, was, "7.2: with power again")
		anew, store := mustFind(t, d, was, "7.3: opened anew")
		mustDo(t, anew, prepare(1, 99), accept(3, 1, "v"))
		mustBeDead(t, g, s, was, "7.2: another one opened anew")
		mustKnow(t, anew, store, was.of(prepare(1, 99), accept(3, 1, "v")), "7.2: beside a dead one")
	}
}

// losses are ways to lose power at a write or flush: open writes kept, lost and torn.
func losses(after int) []disk.Loss {
	l := []disk.Loss{{Torn: -1}, {Keep: keepAll, Torn: -1}, {Keep: 0x5555555555555555, Torn: -1}, {Keep: ^uint64(0x5555555555555555), Torn: -1}}
	for torn := range 2 {
		for _, cut := range []int{0, 11, 17, 8191} {
			l = append(l, disk.Loss{Keep: keepAll * uint64(cut%2), Torn: torn, Cut: cut})
		}
	}
	for i := range l {
		l[i].After = after
	}
	return l
}

// mustGoOn says that a disk whose power went has a register as it was, or as it was to be, and goes on from there.
func mustGoOn(t *testing.T, d *disk.Disk, kept, under plain, why string) (*Register, *local.Store, plain) {
	t.Helper()
	d.Restart()
	g, s := opened(t, d)
	now := found(t, s)
	if now != kept && now != under {
		t.Fatalf("7.3: %s: it knows %s; neither %s, nor %s", why, now, kept, under)
	}
	mustKnow(t, g, s, now, "7.3: "+why)
	return g, s, now
}

// TestPowerLostAtEachWriteAndFlush of a Prepare and of an Accept.
func TestPowerLostAtEachWriteAndFlush(t *testing.T) {
	longest := strings.Repeat("v", 1800)
	before := []call{prepare(1, 9), accept(2, 5, "a"), accept(3, 7, longest), prepare(3, 8), prepare(16, 1), accept(4, 2, "")}
	kept := plain{}.of(before...)
	for _, c := range []call{
		prepare(0, 1), prepare(1, 10), prepare(2, 6), prepare(3, 99),
		accept(0, 1, "b"), accept(1, 9, "b"), accept(1, 10, longest), accept(2, 5, "b"), accept(2, 6, ""), accept(3, 8, "short"), accept(4, 2, longest),
	} {
		want, under := kept.answer(c)
		cut, cuts := true, 0
		for after := 1; cut; after++ {
			for i, l := range losses(after) {
				g, s, d := newRegister(t, 60)
				mustDo(t, g, before...)
				why := fmt.Sprint(c, ", ", l)
				d.Arm(l)
				a := c.of(g)
				if cut = s.Dead(); !cut {
					mustAnswer(t, a, want, "7.2: "+why)
					d.Cut(l)
					mustGoOn(t, d, under, under, why)
					continue
				}
				cuts++
				mustAnswer(t, a, api.Answer{Err: api.ErrDown}, "7.2: "+why)
				if i < 2 {
					mustBeDead(t, g, s, kept, "7.2: "+why)
				}
				g, s, now := mustGoOn(t, d, kept, under, why)
				if i < 2 {
					d.Cut(l)
					g, s, _ = mustGoOn(t, d, now, now, why+", and once more")
				}
				again, behind := now.answer(c)
				mustAnswer(t, c.of(g), again, "7.3: "+why+", and asked again")
				mustKnow(t, g, s, behind, "7.3: "+why+", and asked again")
			}
		}
		if cuts < 5*12 {
			t.Errorf("7.3: %s: power was lost %d times", c, cuts)
		}
	}
}

// someCall is a call of few versions, near what is promised there; now and then one that is refused.
func someCall(r *rand.Rand, p plain) call {
	c := call{version: []int{0, 1, 1, 2, 8, 16}[r.Intn(6)]}
	c.ballot = p[c.version].promised - 2 + r.Intn(5)
	if c.accepts = r.Intn(2) == 0; c.accepts {
		c.value = strings.Repeat(string(rune('a'+r.Intn(26))), []int{0, 1, 2, 300, 1799, 1800, 1801}[r.Intn(7)])
	}
	switch r.Intn(20) {
	case 0:
		c.version = []int{-1, 17, 99}[r.Intn(3)]
	case 1:
		c.ballot = -r.Intn(2)
	case 2:
		c.ballot += r.Intn(1000)
	}
	return c
}

// TestModel: calls one behind the other, on much room and on little, beside a plain register.
func TestModel(t *testing.T) {
	full := 0
	for seed := range int64(24) {
		r := rand.New(rand.NewSource(seed))
		g, s, d := newRegister(t, []int{6, 9, 60}[seed%3])
		var p plain
		for i := range 150 {
			c := someCall(r, p)
			want, next := p.answer(c)
			a := c.of(g)
			if a.Err == api.ErrFull && want.Err == api.OK {
				full++
				mustAnswer(t, a, api.Answer{Err: api.ErrFull}, "7.2: "+c.String())
			} else {
				mustAnswer(t, a, want, "7.2: "+c.String())
				p = next
			}
			if i%10 == 0 {
				mustKnow(t, g, s, p, "7.2: a plain register")
				g, s = mustFind(t, d, p, "7.3: a plain register, opened anew")
			}
		}
	}
	if full == 0 {
		t.Error("no disk was ever full")
	}
}

// TestLossBehindLoss: a register goes on from what was found, many times; what it told is known ever after.
func TestLossBehindLoss(t *testing.T) {
	unsaid := 0
	for seed := range int64(30) {
		r := rand.New(rand.NewSource(seed))
		g, s, d := newRegister(t, 14+int(seed))
		var kept plain
		for range 25 {
			all := losses(1 + r.Intn(40))
			l := all[r.Intn(len(all))]
			if r.Intn(3) == 0 {
				l.Keep = r.Uint64()
			}
			d.Arm(l)
			under := kept
			for !s.Dead() {
				c := someCall(r, kept)
				want, next := kept.answer(c)
				switch a := c.of(g); a.Err {
				case api.ErrDown, api.ErrFull:
					if want.Err != api.OK {
						t.Fatalf("7.2: %s: %s; not %s", c, told(a), told(want))
					}
					mustAnswer(t, a, api.Answer{Err: a.Err}, "7.2: "+c.String())
					if a.Err == api.ErrDown {
						under = next
					}
				default:
					mustAnswer(t, a, want, "7.2: "+c.String())
					kept, under = next, next
				}
			}
			was := kept
			g, s, kept = mustGoOn(t, d, was, under, fmt.Sprint("seed ", seed, ", ", l))
			if kept != was {
				unsaid++
			}
		}
	}
	if unsaid == 0 {
		t.Error("nothing that was under way was ever found")
	}
}

// TestRoomStepByStep: with more and more room, from none on, a call is refused without a trace till it is done.
func TestRoomStepByStep(t *testing.T) {
	longest := strings.Repeat("v", 1800)
	for _, all := range [][]call{
		{prepare(1, 1), accept(1, 1, "a"), prepare(1, 2), accept(1, 2, longest), prepare(2, 1), accept(3, 1, longest), accept(3, 2, "")},
		{accept(16, 1, longest), accept(15, 1, longest), accept(0, 1, longest), prepare(0, 2), accept(1, 1, longest), accept(2, 2, longest), prepare(16, 9)},
	} {
		for blocks := 3; blocks < 40; blocks++ {
			g, s, d := newRegister(t, blocks)
			var p plain
			full := 0
			for _, c := range all {
				want, next := p.answer(c)
				number := s.Number()
				a := c.of(g)
				if a.Err != api.ErrFull {
					mustAnswer(t, a, want, "7.2: "+c.String())
					p = next
					continue
				}
				full++
				mustAnswer(t, a, api.Answer{Err: api.ErrFull}, "7.2: "+c.String()+" without room")
				if s.Number() != number || s.Dead() {
					t.Fatalf("7.2: %s without room changes the store", c)
				}
				mustKnow(t, g, s, p, "7.2: "+c.String()+" without room")
				mustFind(t, d, p, "7.2: "+c.String()+" without room, opened anew")
				mustRefuse(t, g, p, c.version)
			}
			if blocks == 3 && full == 0 || blocks > 34 && full != 0 {
				t.Errorf("7.2: %d calls refused on %d blocks", full, blocks)
			}
		}
	}
}

// mustRefuse says that what needs no room is told without room too.
func mustRefuse(t *testing.T, g *Register, p plain, version int) {
	t.Helper()
	for _, c := range []call{prepare(version, p[version].promised), accept(version, p[version].promised-1, "v"), prepare(17, 1), accept(version, 9, strings.Repeat("v", 1801))} {
		want, _ := p.answer(c)
		mustAnswer(t, c.of(g), want, "7.2: "+c.String()+" without room")
	}
}

// TestTheSameForTheSame: two runs write the same bytes.
func TestTheSameForTheSame(t *testing.T) {
	var disks [2]*disk.Disk
	for i := range disks {
		r := rand.New(rand.NewSource(7))
		g, _, d := newRegister(t, 60)
		var p plain
		for range 120 {
			c := someCall(r, p)
			c.of(g)
			_, p = p.answer(c)
		}
		disks[i] = d
	}
	for at := range 60 {
		a, _ := disks[0].Read(at)
		b, _ := disks[1].Read(at)
		if !bytes.Equal(a, b) {
			t.Fatalf("rule 7: block %d is not the same", at)
		}
	}
}
