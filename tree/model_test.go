package tree

import (
	"bytes"
	"fmt"
	"maps"
	"math/rand"
	"slices"
	"strings"
	"testing"

	"headland/api"
	"headland/disk"
)

// model is a plain map in the place of a tree.
type model map[string]string

func (m model) pairs(lo, hi string, most int) string {
	var l []string
	for _, k := range slices.Sorted(maps.Keys(m)) {
		if k >= lo && (hi == "" || k < hi) && len(l) < most {
			l = append(l, k+"="+m[k])
		}
	}
	return strings.Join(l, " ")
}

type pastState struct {
	snap *Snap
	was  model
}

// play is a tree beside its model.
type play struct {
	t         *testing.T
	r         *rand.Rand
	d         *disk.Disk
	x         *Tree
	now, last model
	number    int
	snaps     []pastState
	full      int
}

func (p *play) key() string {
	switch p.r.Intn(8) {
	case 0:
		return strings.Repeat("k", 1+p.r.Intn(64))
	case 1:
		return string([]byte{byte(p.r.Intn(256))})
	}
	return fmt.Sprint(p.r.Intn(90))
}

func (p *play) value() string {
	if p.r.Intn(10) == 0 {
		return strings.Repeat("v", 1790+p.r.Intn(11))
	}
	return fmt.Sprint(p.r.Intn(1000))
}

func (p *play) put() {
	k, v := p.key(), p.value()
	room, was := p.x.Left() >= 2*p.x.Depth()+1, allTold(p.x)
	e := p.x.Put([]byte(k), []byte(v))
	if e == api.ErrFull && !room {
		p.full++
		mustHaveTold(p.t, p.x, was, "5.2: behind ErrFull")
		return
	}
	mustTell(p.t, e, api.OK, "5.2: Put")
	p.now[k] = v
}

func (p *play) delete() {
	k := p.key()
	_, is := p.now[k]
	room, before := p.x.Left() >= 3*p.x.Depth()+1, allTold(p.x)
	was, e := p.x.Delete([]byte(k))
	if e == api.ErrFull && !room && !was {
		p.full++
		mustHaveTold(p.t, p.x, before, "5.2: behind ErrFull")
		return
	}
	if mustTell(p.t, e, api.OK, "5.2: Delete"); was != is {
		p.t.Fatalf("5.2: Delete of %q: %v, not %v", k, was, is)
	}
	delete(p.now, k)
}

func (p *play) commit() {
	mustCommit(p.t, p.x)
	p.number++
	p.last = maps.Clone(p.now)
	if len(p.snaps) == 0 {
		mustHaveRoom(p.t, p.x, p.d, "behind a Commit")
	}
}

func (p *play) snap() {
	s, e := p.x.Snap()
	if len(p.snaps) == 4 {
		mustTell(p.t, e, api.ErrMany, "5.4: a fifth Snap")
		return
	}
	mustTell(p.t, e, api.OK, "5.4: Snap")
	p.snaps = append(p.snaps, pastState{s, maps.Clone(p.last)})
}

func (p *play) close() {
	if len(p.snaps) == 0 {
		return
	}
	i := p.r.Intn(len(p.snaps))
	p.snaps[i].snap.Close()
	mustNotGet(p.t, p.snaps[i].snap, []byte("a"), api.ErrDown, "5.4: closed")
	p.snaps = slices.Delete(p.snaps, i, i+1)
}

func (p *play) reopen() {
	if len(p.snaps) > 0 {
		return
	}
	p.x = mustOpen(p.t, p.d)
	p.now = maps.Clone(p.last)
	mustHaveRoom(p.t, p.x, p.d, "opened anew")
}

func (p *play) step() {
	switch n := p.r.Intn(40); {
	case n < 17:
		p.put()
	case n < 27:
		p.delete()
	case n < 33:
		p.commit()
	case n < 35:
		mustTell(p.t, p.x.Rollback(), api.OK, "5.3: Rollback")
		p.now = maps.Clone(p.last)
	case n < 37:
		p.snap()
	case n < 39:
		p.close()
	default:
		p.reopen()
	}
}

func (p *play) look() {
	p.t.Helper()
	if p.x.Len() != len(p.now) || p.x.Number() != p.number || p.x.Dead() {
		p.t.Fatalf("5.6: %d keys, number %d; not %d, %d", p.x.Len(), p.x.Number(), len(p.now), p.number)
	}
	if p.r.Intn(3) == 0 {
		mustBe(p.t, p.x, p.now.pairs("", "", plenty), "5.6: a sorted map")
	}
	lo, hi, most := p.key(), p.key(), p.r.Intn(9)
	mustRange(p.t, p.x, lo, hi, most, p.now.pairs(lo, hi, most), "5.6: a sorted map")
	mustRange(p.t, p.x, lo, "", most, p.now.pairs(lo, "", most), "5.6: a sorted map")
	v, is, e := p.x.Get([]byte(lo))
	if want, has := p.now[lo]; is != has || !bytes.Equal(v, []byte(want)) || e != api.OK {
		p.t.Fatalf("5.6: Get of %q: %d bytes, %v, %d", lo, len(v), is, e)
	}
	for _, s := range p.snaps {
		mustRange(p.t, s.snap, lo, hi, most, s.was.pairs(lo, hi, most), "5.4: a Snap")
		v, is, e := s.snap.Get([]byte(hi))
		if want, has := s.was[hi]; is != has || string(v) != want || e != api.OK {
			p.t.Fatalf("5.4: a Snap's Get of %q: %d bytes, %v, %d", hi, len(v), is, e)
		}
	}
}

func TestModel(t *testing.T) {
	full := 0
	for seed := range int64(24) {
		r := rand.New(rand.NewSource(seed))
		d := newDisk(t, []int{12, 60, 150, 700}[seed%4])
		p := &play{t: t, r: r, d: d, x: mustOpen(t, d), now: model{}, last: model{}}
		for i := range 400 {
			p.step()
			p.look()
			if i%20 == 0 {
				mustBeWellShaped(t, p.x, d)
				for _, s := range p.snaps {
					mustBe(t, s.snap, s.was.pairs("", "", plenty), "5.4: a Snap")
				}
			}
		}
		full += p.full
	}
	if full == 0 {
		t.Error("no disk was ever full")
	}
}

// TestTheSameForTheSame: two runs write the same bytes.
func TestTheSameForTheSame(t *testing.T) {
	var disks [2]*disk.Disk
	for i := range disks {
		d := newDisk(t, 150)
		p := &play{t: t, r: rand.New(rand.NewSource(5)), d: d, x: mustOpen(t, d), now: model{}, last: model{}}
		for range 300 {
			p.step()
		}
		disks[i] = d
	}
	for at := range 150 {
		a, _ := disks[0].Read(at)
		b, _ := disks[1].Read(at)
		if !bytes.Equal(a, b) {
			t.Fatalf("rule 7: block %d is not the same", at)
		}
	}
}
