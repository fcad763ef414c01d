package draft

import (
	"fmt"
	"maps"
	"math/rand"
	"slices"
	"strings"
	"testing"

	"headland/api"
	"headland/local"
)

// model is plain maps in the place of a draft.
type model [api.MaxSpaces]map[string]string

func (m model) with(c api.Change) model {
	own := maps.Clone(m[c.Space])
	if own == nil {
		own = map[string]string{}
	}
	if delete(own, string(c.Key)); !c.Gone {
		own[string(c.Key)] = string(c.Value)
	}
	m[c.Space] = own
	return m
}

func (m model) pairs(space int, lo, hi string, most int) []api.Pair {
	var l []api.Pair
	for _, k := range slices.Sorted(maps.Keys(m[space])) {
		if k >= lo && (hi == "" || k < hi) && len(l) < most {
			l = append(l, pair(space, k, m[space][k]))
		}
	}
	return l
}

func (m model) spelled() string {
	var l []api.Pair
	for space := range m {
		l = append(l, m.pairs(space, "", "", plenty)...)
	}
	return spelled(l)
}

// play is a draft beside its model.
type play struct {
	t    *testing.T
	r    *rand.Rand
	s    *local.Store
	d    *Draft
	made []api.Change
	was  []model // behind so many changes: the first is the store's
}

func (p *play) now() model { return p.was[len(p.was)-1] }

func (p *play) key() string {
	switch p.r.Intn(8) {
	case 0:
		return strings.Repeat("1", 1+p.r.Intn(60))
	case 1:
		return string([]byte{byte(p.r.Intn(256))})
	}
	return fmt.Sprint(p.r.Intn(25))
}

func (p *play) space() int { return []int{0, 1, 1, 1, 2, 14, 15}[p.r.Intn(7)] }

func (p *play) change() {
	c := laid(p.space(), p.key(), fmt.Sprint(p.r.Intn(1000)))
	if p.r.Intn(3) == 0 {
		c = gone(c.Space, string(c.Key))
	}
	mustMake(p.t, p.d, c)
	p.made, p.was = append(p.made, c), append(p.was, p.now().with(c))
}

func (p *play) back() {
	mark := len(p.made) - p.r.Intn(min(len(p.made)+1, 7))
	mustTell(p.t, p.d.Back(mark), api.OK, "13.2: Back")
	p.made, p.was = p.made[:mark:mark], p.was[:mark+1:mark+1]
}

// apply lets the store have the changes, and begins anew, or goes on with all of them over what they made.
func (p *play) apply() {
	told := whole(p.t, p.d)
	mustTell(p.t, p.s.Apply(p.s.Pos()+1, p.d.Changes()), api.OK, "13.3: Apply of Changes")
	mustBe(p.t, p.s, told, "13.3: Apply of Changes")
	mustBe(p.t, p.d, told, "13.3: Apply of Changes, the draft")
	if p.r.Intn(2) == 0 {
		p.d = mustDraft(p.t, p.s)
	} else {
		mustTell(p.t, p.d.Back(0), api.OK, "13.2: Back")
	}
	p.made, p.was = nil, []model{p.now()}
}

func (p *play) refuse() {
	p.d.Put(16, []byte(p.key()), nil)
	p.d.Put(p.space(), nil, nil)
	p.d.Delete(p.space(), make([]byte, 61))
	p.d.Back(len(p.made) + 1 + p.r.Intn(3))
	p.d.Back(-1 - p.r.Intn(3))
}

func (p *play) step() {
	switch n := p.r.Intn(40); {
	case n < 30:
		p.change()
	case n < 35:
		p.back()
	case n < 37:
		p.apply()
	default:
		p.refuse()
	}
}

// changes is the last change of each key, by space and then by key, in another way.
func (p *play) changes() string {
	l := slices.Clone(p.made)
	slices.SortStableFunc(l, func(a, b api.Change) int {
		return strings.Compare(fmt.Sprintf("%02d%s", a.Space, a.Key), fmt.Sprintf("%02d%s", b.Space, b.Key))
	})
	var last []api.Change
	for i, c := range l {
		if i+1 == len(l) || c.Space != l[i+1].Space || string(c.Key) != string(l[i+1].Key) {
			last = append(last, c)
		}
	}
	return spelledChanges(last)
}

func (p *play) look() {
	p.t.Helper()
	if p.d.Mark() != len(p.made) {
		p.t.Fatalf("13.2: Mark %d, not %d", p.d.Mark(), len(p.made))
	}
	mustChange(p.t, p.d, p.changes(), "13.2: a model")
	mustBe(p.t, p.d, p.now().spelled(), "13.1: a model")
	mustBe(p.t, p.s, p.was[0].spelled(), "13.1: nothing is turned in the store")
	for range 4 {
		space, lo, hi, most := p.space(), p.key(), p.key(), p.r.Intn(9)
		mustRange(p.t, p.d, space, lo, hi, most, spelled(p.now().pairs(space, lo, hi, most)), "13.1: a model")
		mustRange(p.t, p.d, space, lo, "", most, spelled(p.now().pairs(space, lo, "", most)), "13.1: a model")
		mustRange(p.t, p.d, space, "", hi, most, spelled(p.now().pairs(space, "", hi, most)), "13.1: a model")
		if want, has := p.now()[space][lo]; has {
			mustGet(p.t, p.d, space, lo, want, "13.1: a model")
		} else {
			mustNotGet(p.t, p.d, space, lo, api.OK, "13.1: a model")
		}
	}
}

// mustBeAsApplied says that a second store, by which the changes were applied as they came, tells and refuses the same.
func (p *play) mustBeAsApplied() {
	p.t.Helper()
	had, _, e := p.s.Export()
	mustTell(p.t, e, api.OK, "6.4: Export")
	other, _ := newStore(p.t, had...)
	mustTell(p.t, other.Apply(4, p.made), api.OK, "6.3: Apply")
	keys := []string{"", "1", "11", "2", "24", "9", "\x00", "\xff", strings.Repeat("1", 60), strings.Repeat("1", 61)}
	for _, space := range []int{-1, 0, 1, 2, 15, 16} {
		for _, lo := range keys {
			v, is, e := p.d.Get(space, []byte(lo))
			w, was, f := other.Get(space, []byte(lo))
			if string(v) != string(w) || is != was || e != f {
				p.t.Fatalf("13.1: Get of %d %q: %q, %v, %d; not %q, %v, %d", space, lo, v, is, e, w, was, f)
			}
			for _, hi := range keys {
				for _, most := range []int{-1, 0, 1, 3, 99} {
					l, e := p.d.Range(space, []byte(lo), []byte(hi), most)
					m, f := other.Range(space, []byte(lo), []byte(hi), most)
					if spelled(l) != spelled(m) || e != f {
						p.t.Fatalf("13.1: Range of %d, %q, %q, %d: %s, %d; not %s, %d", space, lo, hi, most, spelled(l), e, spelled(m), f)
					}
				}
			}
		}
	}
}

func TestModel(t *testing.T) {
	for seed := range int64(12) {
		d, s := newDraft(t)
		p := &play{t: t, r: rand.New(rand.NewSource(seed)), s: s, d: d, was: make([]model, 1)}
		for i := range 120 {
			p.step()
			p.look()
			if i%40 == 39 {
				p.mustBeAsApplied()
			}
		}
	}
}

// TestTheSameForTheSame: what is told does not hang on the order in which a map is gone through.
func TestTheSameForTheSame(t *testing.T) {
	d, _ := ranged(t)
	told, changes := whole(t, d), spelledChanges(d.Changes())
	for range 50 {
		other, _ := ranged(t)
		mustBe(t, d, told, "rule 5: told twice")
		mustChange(t, d, changes, "rule 5: told twice")
		mustBe(t, other, told, "rule 5: told by another one")
		mustChange(t, other, changes, "rule 5: told by another one")
	}
}
