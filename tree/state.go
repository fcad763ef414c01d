package tree

import (
	"math/bits"

	"headland/api"
	"headland/page"
)

const (
	noPage    = 0 // a head's block can be no page: its number is free to say that there is none
	firstPage = 2
)

// state is what a tree is: all else of it stands in its pages.
type state struct {
	root, depth, keys int
	pages             pageSet
}

// pageSet is numbers of pages, a bit each.
type pageSet [api.MaxBlocks / wordBits]uint64

const wordBits = 64

func (s *pageSet) add(id int) { s[id/wordBits] |= 1 << (id % wordBits) }

func (s *pageSet) drop(id int) { s[id/wordBits] &^= 1 << (id % wordBits) }

func (s *pageSet) has(id int) bool { return s[id/wordBits]>>(id%wordBits)&1 == 1 }

func (s *pageSet) join(o *pageSet) {
	for i := range s {
		s[i] |= o[i]
	}
}

func (s *pageSet) count() int {
	n := 0
	for _, w := range s {
		n += bits.OnesCount64(w)
	}
	return n
}

func (s *pageSet) numbers() []int {
	var l []int
	for id := range api.MaxBlocks {
		if s.has(id) {
			l = append(l, id)
		}
	}
	return l
}

// needed is the pages that may not be written over, once the tree as it is now is committed.
func (t *Tree) needed() pageSet {
	n := t.now.pages
	for _, s := range t.snaps {
		n.join(&s.was.pages)
	}
	return n
}

// giveBack gives back what nobody needs behind the Commit that follows at once. Ahead of it no page is given back: Rollback and Snap need no page that the store doesn't hold.
func (t *Tree) giveBack() {
	needed := t.needed()
	for id := firstPage; id < t.disk.Blocks(); id++ {
		if !needed.has(id) {
			t.store.Free(id) // refused where it is not held: nothing is to be given back then
		}
	}
}

// letGo frees what nobody needs at once, without a Commit: a Store that is opened anew holds nothing but what it is told to. Where the last head does not read any more the Store stays, and the next Commit frees it.
func (t *Tree) letGo() {
	anew, e := page.Open(t.disk)
	if e != api.OK || anew.Number() != t.store.Number() {
		return
	}
	needed := t.needed()
	needed.join(&t.last.pages)
	anew.Hold(needed.numbers()...)
	t.store = anew
	t.left = anew.Left()
}
