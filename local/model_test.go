package local

import (
	"bytes"
	"fmt"
	"maps"
	"math/rand"
	"slices"
	"strings"
	"testing"

	"headland/api"
	"headland/disk"
)

// model is plain maps in the place of a store.
type model struct {
	spaces [api.MaxSpaces]map[string]string
	pos    int
}

func (m *model) clone() model {
	c := *m
	for i := range c.spaces {
		c.spaces[i] = maps.Clone(c.spaces[i])
	}
	return c
}

func (m *model) make(c api.Change) {
	if c.Gone {
		delete(m.spaces[c.Space], string(c.Key))
		return
	}
	if m.spaces[c.Space] == nil {
		m.spaces[c.Space] = map[string]string{}
	}
	m.spaces[c.Space][string(c.Key)] = string(c.Value)
}

func (m *model) pairs(space int, lo, hi string, most int) []api.Pair {
	var l []api.Pair
	for _, k := range slices.Sorted(maps.Keys(m.spaces[space])) {
		if k >= lo && (hi == "" || k < hi) && len(l) < most {
			l = append(l, pair(space, k, m.spaces[space][k]))
		}
	}
	return l
}

func (m *model) spelled() string {
	var l []api.Pair
	for space := range m.spaces {
		l = append(l, m.pairs(space, "", "", plenty)...)
	}
	return fmt.Sprintf("%s at %d", spelled(l), m.pos)
}

// play is a store beside its model.
type play struct {
	t    *testing.T
	r    *rand.Rand
	d    *disk.Disk
	s    *Store
	now  model
	full int
}

func (p *play) key() string {
	switch p.r.Intn(8) {
	case 0:
		return strings.Repeat("k", 1+p.r.Intn(60))
	case 1:
		return string([]byte{byte(p.r.Intn(256))})
	}
	return fmt.Sprint(p.r.Intn(30))
}

func (p *play) pair() api.Pair {
	value := fmt.Sprint(p.r.Intn(1000))
	if p.r.Intn(10) == 0 {
		value = strings.Repeat("v", 1790+p.r.Intn(11))
	}
	return pair([]int{0, 1, 1, 1, 7, 14, 15}[p.r.Intn(7)], p.key(), value)
}

func (p *play) apply() {
	next := p.now.clone()
	next.pos += p.r.Intn(3)
	l := make([]api.Change, p.r.Intn(6))
	for i := range l {
		l[i] = api.Change{Pair: p.pair(), Gone: p.r.Intn(3) == 0}
		next.make(l[i])
	}
	p.mustBecome(next, func() api.Errno { return p.s.Apply(next.pos, l) })
}

func (p *play) importAll() {
	next := model{pos: p.r.Intn(p.now.pos + 9)}
	l := make([]api.Pair, p.r.Intn(30))
	for i := range l {
		l[i] = p.pair()
		next.make(api.Change{Pair: l[i]})
	}
	p.mustBecome(next, func() api.Errno { return p.s.Import(l, next.pos) })
}

// exchange lets another store have the pairs, change them, and give them back.
func (p *play) exchange() {
	l, pos, e := p.s.Export()
	mustTell(p.t, e, api.OK, "6.4: Export")
	other, _ := newStore(p.t, 600)
	mustImport(p.t, other, pos, l...)
	mustBe(p.t, other, p.now.spelled(), "6.6: another store")
	next := p.now.clone()
	next.pos += p.r.Intn(9)
	c := api.Change{Pair: p.pair(), Gone: p.r.Intn(2) == 0}
	next.make(c)
	mustApply(p.t, other, next.pos, c)
	l, pos, e = other.Export()
	mustTell(p.t, e, api.OK, "6.4: Export")
	p.mustBecome(next, func() api.Errno { return p.s.Import(l, pos) })
}

func (p *play) mustBecome(next model, change func() api.Errno) {
	p.t.Helper()
	was := allTold(p.s)
	e := change()
	if e == api.ErrFull {
		p.full++
		mustHaveTold(p.t, p.s, was, "6.3: behind ErrFull")
		return
	}
	mustTell(p.t, e, api.OK, "6.3: a change")
	if p.s.Number() != was.number+1 {
		p.t.Fatalf("6.3: %d Commits", p.s.Number()-was.number)
	}
	p.now = next
}

// refuse asks for what is refused.
func (p *play) refuse() {
	right := api.Change{Pair: p.pair()}
	was := allTold(p.s)
	mustTell(p.t, p.s.Apply(p.now.pos-1-p.r.Intn(3), []api.Change{right}), api.ErrArg, "6.2: below Pos()")
	mustTell(p.t, p.s.Apply(p.now.pos, []api.Change{right, {Pair: api.Pair{Space: 16, Key: []byte("k")}}}), api.ErrArg, "6.2: no space")
	mustTell(p.t, p.s.Import([]api.Pair{right.Pair, {Space: 1, Key: make([]byte, 61)}}, 0), api.ErrLong, "6.2: a long key")
	mustHaveTold(p.t, p.s, was, "rule 4: behind refusals")
}

func (p *play) step() {
	switch n := p.r.Intn(40); {
	case n < 26:
		p.apply()
	case n < 29:
		p.importAll()
	case n < 32:
		p.exchange()
	case n < 36:
		p.refuse()
	default:
		p.s = mustOpen(p.t, p.d)
	}
}

func (p *play) look() {
	p.t.Helper()
	if got := whole(p.t, p.s); got != p.now.spelled() || p.s.Pos() != p.now.pos || p.s.Dead() {
		p.t.Fatalf("6.3: %s; not %s", got, p.now.spelled())
	}
	space, lo, hi, most := p.r.Intn(16), p.key(), p.key(), p.r.Intn(9)
	mustRange(p.t, p.s, space, lo, hi, most, spelled(p.now.pairs(space, lo, hi, most)), "6.2: a sorted map")
	mustRange(p.t, p.s, space, lo, "", most, spelled(p.now.pairs(space, lo, "", most)), "6.2: a sorted map")
	mustRange(p.t, p.s, space, "", hi, plenty, spelled(p.now.pairs(space, "", hi, plenty)), "6.2: a sorted map")
	v, is, e := p.s.Get(space, []byte(lo))
	if want, has := p.now.spaces[space][lo]; is != has || string(v) != want || e != api.OK {
		p.t.Fatalf("6.2: Get of %d %q: %d bytes, %v, %d", space, lo, len(v), is, e)
	}
	if p.s.Len(space) != len(p.now.spaces[space]) {
		p.t.Fatalf("6.2: Len of %d: %d", space, p.s.Len(space))
	}
}

func TestModel(t *testing.T) {
	full := 0
	for seed := range int64(18) {
		d := newDisk(t, []int{12, 60, 400}[seed%3])
		p := &play{t: t, r: rand.New(rand.NewSource(seed)), d: d, s: mustOpen(t, d)}
		for i := range 150 {
			p.step()
			p.look()
			if i%20 == 0 {
				mustBe(t, p.s, p.now.spelled(), "6.3: a model")
				mustTell(t, p.s.Check(), api.OK, "5.5: Check")
			}
		}
		full += p.full
	}
	if full == 0 {
		t.Error("no disk was ever full")
	}
}

// TestTheSameForTheSame: two runs write the same bytes.
func TestTheSameForTheSame(t *testing.T) {
	var disks [2]*disk.Disk
	for i := range disks {
		d := newDisk(t, 150)
		p := &play{t: t, r: rand.New(rand.NewSource(5)), d: d, s: mustOpen(t, d)}
		for range 100 {
			p.step()
		}
		disks[i] = d
	}
	for at := range 150 {
		a, _ := disks[0].Read(at)
		b, _ := disks[1].Read(at)
		if !bytes.Equal(a, b) {
			t.Fatalf("rule 7: block %d is not the same", at)
		}
	}
}
