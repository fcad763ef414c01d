package disk

import (
	"bytes"
	"math/rand"
	"testing"

	"headland/api"
)

// model is a disk by the chapter's words, with whole blocks and no thought of room.
type model struct {
	kept  [][]byte
	open  []modelWrite
	down  bool
	life  int
	armed *Loss
}

type modelWrite struct {
	at int
	b  []byte
}

func newModel(blocks int) *model {
	m := &model{}
	for range blocks {
		m.kept = append(m.kept, make([]byte, api.Block))
	}
	return m
}

func (m *model) lose(l Loss) {
	if m.down {
		return
	}
	for i, w := range m.open {
		cut := 0
		if l.Keep&(1<<(i%64)) != 0 {
			cut = api.Block
		}
		if i == l.Torn {
			cut = l.Cut
		}
		for j := 0; j < cut && j < api.Block; j++ {
			m.kept[w.at][j] = w.b[j]
		}
	}
	m.open, m.armed, m.down = nil, nil, true
	m.life++
}

func (m *model) counted() bool {
	if m.armed == nil {
		return false
	}
	if m.armed.After--; m.armed.After > 0 {
		return false
	}
	m.lose(*m.armed)
	return true
}

func (m *model) write(at int, b []byte) api.Errno {
	switch {
	case m.down:
		return api.ErrDown
	case at < 0 || at >= len(m.kept) || len(b) > api.Block:
		return api.ErrArg
	case m.counted():
		return api.ErrDown
	}
	m.open = append(m.open, modelWrite{at, padded(b)})
	return api.OK
}

func (m *model) flush() api.Errno {
	if m.down || m.counted() {
		return api.ErrDown
	}
	for _, w := range m.open {
		m.kept[w.at] = w.b
	}
	m.open = nil
	return api.OK
}

func (m *model) read(at int) ([]byte, api.Errno) {
	switch {
	case m.down:
		return nil, api.ErrDown
	case at < 0 || at >= len(m.kept):
		return nil, api.ErrArg
	}
	b := m.kept[at]
	for _, w := range m.open {
		if w.at == at {
			b = w.b
		}
	}
	return b, api.OK
}

func (m *model) arm(l Loss) {
	if m.down {
		return
	}
	m.armed = nil
	if l.After >= 1 {
		m.armed = &l
	}
}

func (m *model) flip(at, bit int) api.Errno {
	if at < 0 || at >= len(m.kept) || bit < 0 || bit > 65535 {
		return api.ErrArg
	}
	m.kept[at] = bitTurned(m.kept[at], bit)
	for i, w := range m.open {
		if w.at == at {
			m.open[i].b = bitTurned(w.b, bit)
		}
	}
	return api.OK
}

func someLoss(r *rand.Rand) Loss {
	cuts := []int{-1, 0, 1, 2, 5, 100, 8191, 8192, 8193, r.Intn(api.Block)}
	keeps := []uint64{0, 1, 2, ^uint64(0), r.Uint64(), r.Uint64() & r.Uint64()}
	return Loss{After: r.Intn(12) - 2, Keep: keeps[r.Intn(len(keeps))], Torn: r.Intn(10) - 2, Cut: cuts[r.Intn(len(cuts))]}
}

func someBytes(r *rand.Rand) []byte {
	sizes := []int{0, 1, 2, 5, 100, 8191, 8192, 8193, r.Intn(api.Block)}
	return filled(sizes[r.Intn(len(sizes))], byte(1+r.Intn(150)))
}

// oneCall does the same to both, and tells what each answered.
func oneCall(r *rand.Rand, d *Disk, m *model) (got, want api.Errno) {
	at := r.Intn(d.Blocks()+2) - 1
	switch r.Intn(20) {
	case 0, 1:
		return d.Flush(), m.flush()
	case 2:
		l := someLoss(r)
		d.Arm(l)
		m.arm(l)
	case 3:
		l := someLoss(r)
		d.Cut(l)
		m.lose(l)
	case 4, 5, 6:
		d.Restart()
		m.down = false
	case 7, 8, 9:
		bits := []int{-1, 0, 7, 8, 65535, 65536, r.Intn(65536)}
		bit := bits[r.Intn(len(bits))]
		return d.Flip(at, bit), m.flip(at, bit)
	default:
		b := someBytes(r)
		return d.Write(at, b), m.write(at, b)
	}
	return api.OK, api.OK
}

func alike(d *Disk, m *model) bool {
	for at := -1; at <= d.Blocks(); at++ {
		got, e := d.Read(at)
		want, e2 := m.read(at)
		if e != e2 || !bytes.Equal(got, want) {
			return false
		}
	}
	return d.Down() == m.down && d.Life() == m.life && d.Open() == len(m.open) && d.Blocks() == len(m.kept)
}

func TestAsTheModelDoes(t *testing.T) {
	for seed := range 300 {
		r := rand.New(rand.NewSource(int64(seed)))
		blocks := 1 + r.Intn(4)
		d, m := mustNew(t, blocks), newModel(blocks)
		for step := range 150 {
			if got, want := oneCall(r, d, m); got != want {
				t.Fatalf("3.2 to 3.4: seed %d, step %d: %d, not %d", seed, step, got, want)
			}
			if !alike(d, m) {
				t.Fatalf("3.2 to 3.4: seed %d, step %d: it reads or counts otherwise", seed, step)
			}
		}
	}
}

// TestWhatWasFlushedIsRead lets the power go at each call of a run, by many a Loss.
func TestWhatWasFlushedIsRead(t *testing.T) {
	const blocks, calls = 3, 24
	for seed := range 40 {
		for after := 1; after <= calls; after++ {
			r := rand.New(rand.NewSource(int64(seed)))
			d := mustNew(t, blocks)
			l := someLoss(rand.New(rand.NewSource(int64(100*seed + after))))
			l.After = after
			d.Arm(l)
			flushed, shown := make([][]byte, blocks), make([][]byte, blocks)
			written := make([]bool, blocks)
			for range calls {
				if r.Intn(4) == 0 {
					if d.Flush() == api.OK {
						copy(flushed, shown)
						clear(written)
					}
				} else if at, b := r.Intn(blocks), filled(r.Intn(20), byte(1+r.Intn(150))); d.Write(at, b) == api.OK {
					shown[at], written[at] = b, true
				}
			}
			mustHaveState(t, d, true, 1, 0, "3.5: armed")
			for range 3 {
				d.Restart()
				for at := range blocks {
					if !written[at] {
						mustBe(t, d, at, flushed[at], "3.5: what was flushed and not written again")
					}
				}
				d.Cut(l)
			}
		}
	}
}

// TestAFlushedRunIsReadBehindEachLoss: nothing that was kept is lost by losses behind it.
func TestAFlushedRunIsReadBehindEachLoss(t *testing.T) {
	r := rand.New(rand.NewSource(7))
	d := mustNew(t, 8)
	want := make([][]byte, 8)
	for range 300 {
		at := r.Intn(8)
		want[at] = filled(r.Intn(api.Block+1), byte(1+r.Intn(150)))
		mustWrite(t, d, (at+1)%8, nil)
		mustWrite(t, d, (at+1)%8, want[(at+1)%8])
		mustWrite(t, d, at, want[at])
		mustFlush(t, d)
		d.Cut(someLoss(r))
		d.Restart()
		for i := range want {
			mustBe(t, d, i, want[i], "3.5: what was flushed")
		}
	}
	mustHaveState(t, d, false, 300, 0, "3.3: Life")
}
