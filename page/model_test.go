package page

import (
	"bytes"
	"math/rand"
	"slices"
	"testing"

	"headland/api"
	"headland/disk"
)

// model is a Store by the chapter's words, as sets of pages.
type model struct {
	blocks       int
	held, given  []int
	laid         map[int][]byte // what was put last, of any page
	root, number int
	dead         bool
}

func (m *model) isPage(id int) bool { return id >= 2 && id < m.blocks }

func (m *model) isFree(id int) bool {
	return m.isPage(id) && !slices.Contains(m.held, id) && !slices.Contains(m.given, id)
}

func without(l []int, id int) []int {
	return slices.DeleteFunc(l, func(x int) bool { return x == id })
}

func (m *model) left() int {
	n := 0
	for id := range m.blocks {
		if m.isFree(id) {
			n++
		}
	}
	return n
}

func (m *model) hold(l []int) api.Errno {
	if m.dead {
		return api.ErrDown
	}
	for _, id := range l {
		if !m.isPage(id) {
			return api.ErrArg
		}
	}
	for _, id := range l {
		m.given = without(m.given, id)
		m.held = append(without(m.held, id), id)
	}
	return api.OK
}

func (m *model) put(b []byte) (int, api.Errno) {
	if m.dead {
		return 0, api.ErrDown
	}
	if len(b) > 8186 {
		return 0, api.ErrLong
	}
	for id := range m.blocks {
		if m.isFree(id) {
			m.held = append(m.held, id)
			m.laid[id] = bytes.Clone(b)
			return id, api.OK
		}
	}
	return 0, api.ErrFull
}

func (m *model) get(id int) ([]byte, api.Errno) {
	if m.dead {
		return nil, api.ErrDown
	}
	if !m.isPage(id) {
		return nil, api.ErrArg
	}
	b, ok := m.laid[id]
	if !ok {
		return nil, api.ErrCorrupt
	}
	return b, api.OK
}

func (m *model) free(id int) api.Errno {
	if m.dead {
		return api.ErrDown
	}
	if !slices.Contains(m.held, id) {
		return api.ErrArg
	}
	m.held = without(m.held, id)
	m.given = append(m.given, id)
	return api.OK
}

func (m *model) commit(root int) api.Errno {
	if m.dead {
		return api.ErrDown
	}
	if root != 0 && !slices.Contains(m.held, root) {
		return api.ErrArg
	}
	m.root = root
	m.number++
	m.given = nil
	return api.OK
}

func someBytes(r *rand.Rand) []byte {
	sizes := []int{0, 1, 2, 5, 100, 8185, 8186, 8187, 9000, r.Intn(api.Block)}
	return filled(sizes[r.Intn(len(sizes))], byte(r.Intn(150)))
}

// oneCall does the same to both, and tells what each answered.
func oneCall(r *rand.Rand, s *Store, m *model) (got, want api.Errno) {
	id := r.Intn(m.blocks+4) - 2
	switch r.Intn(9) {
	case 0, 1, 2:
		b := someBytes(r)
		at, e := s.Put(b)
		wantAt, want := m.put(b)
		if at != wantAt {
			return -1, want
		}
		return e, want
	case 3, 4:
		return s.Free(id), m.free(id)
	case 5, 6:
		if r.Intn(4) == 0 {
			id = 0
		}
		return s.Commit(id), m.commit(id)
	default:
		l := []int{id, 2 + r.Intn(m.blocks-2), 2 + r.Intn(m.blocks-2)}[:r.Intn(4)]
		return s.Hold(l...), m.hold(l)
	}
}

func alike(s *Store, m *model) bool {
	for id := -1; id <= m.blocks; id++ {
		got, e := s.Get(id)
		want, e2 := m.get(id)
		if e != e2 || !bytes.Equal(got, want) {
			return false
		}
	}
	return s.Root() == m.root && s.Number() == m.number && s.Left() == m.left() && s.Dead() == m.dead
}

func TestAsTheModelDoes(t *testing.T) {
	for seed := range 120 {
		r := rand.New(rand.NewSource(int64(seed)))
		blocks := 3 + r.Intn(8)
		s, d := newStore(t, blocks)
		m := &model{blocks: blocks, laid: map[int][]byte{}}
		for step := range 120 {
			if step == 110 {
				d.Cut(disk.Loss{})
				m.dead = true
				d.Restart()
			}
			if got, want := oneCall(r, s, m); got != want {
				t.Fatalf("4.2 to 4.4: seed %d, step %d: %d, not %d", seed, step, got, want)
			}
			if !alike(s, m) {
				t.Fatalf("4.2 to 4.4: seed %d, step %d: it reads or counts otherwise", seed, step)
			}
			if step%20 == 0 && !m.dead {
				mustOpen(t, d, m.root, m.number)
			}
		}
	}
}
