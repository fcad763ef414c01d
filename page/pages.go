package page

import "slices"

// state is what a block is to a Store.
type state byte

const (
	noPage state = iota // a head's block, or none
	free
	held
	givenBack // no longer held, but the last head may lead to it: not to be written before the next one
)

// pages counts what is held: a state of each block.
type pages struct {
	states []state
}

// newPages is all pages free: it is up to whoever opens a Store to say what its root leads to.
func newPages(blocks int) pages {
	l := make([]state, blocks)
	for id := heads; id < blocks; id++ {
		l[id] = free
	}
	return pages{l}
}

func (p *pages) of(id int) state {
	if id < 0 || id >= len(p.states) {
		return noPage
	}
	return p.states[id]
}

func (p *pages) set(id int, to state) { p.states[id] = to }

func (p *pages) lowestFree() (int, bool) {
	id := slices.Index(p.states, free)
	return id, id >= 0
}

func (p *pages) countFree() int {
	n := 0
	for _, is := range p.states {
		if is == free {
			n++
		}
	}
	return n
}

func (p *pages) freeGivenBack() {
	for id, is := range p.states {
		if is == givenBack {
			p.set(id, free)
		}
	}
}
