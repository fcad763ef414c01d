package tree

import (
	"math/bits"

	"headland/api"
	"headland/page"
)

const (
	noPage    = 0 // a head's block can be no page: its number is free to say that there is none
	firstPage = 2
)

// state is what a tree is: all else of it stands in its pages.
type state struct {
	root, depth, keys int
	pages             pageSet
}

// pageSet is numbers of pages, a bit each.
type pageSet [api.MaxBlocks / wordBits]uint64

const wordBits = 64

func (s *pageSet) add(id int) { s[id/wordBits] |= 1 << (id % wordBits) }

func (s *pageSet) drop(id int) { s[id/wordBits] &^= 1 << (id % wordBits) }

func (s *pageSet) dropAll(l []place) {
	for _, p := range l {
		s.drop(int(p))
	}
}

func (s *pageSet) has(id int) bool { return s[id/wordBits]>>(id%wordBits)&1 == 1 }

func (s *pageSet) join(o *pageSet) {
	for i := range s {
		s[i] |= o[i]
	}
}

func (s *pageSet) count() int {
	n := 0
	for _, w := range s {
		n += bits.OnesCount64(w)
	}
	return n
}

func (s *pageSet) numbers() []int {
	var l []int
	for id := range api.MaxBlocks {
		if s.has(id) {
			l = append(l, id)
		}
	}
	return l
}

// needed is the pages that may not be written over, once a tree that has these is committed.
func (t *Tree) needed(pages pageSet) pageSet {
	for _, s := range t.snaps {
		pages.join(&s.was.pages)
	}
	return pages
}

// neededNow is the pages that may not be written over as long as nothing is committed.
func (t *Tree) neededNow(pages pageSet) pageSet {
	pages.join(&t.last.pages)
	return t.needed(pages)
}

// giveBack gives back what nobody needs behind the Commit that follows at once. Ahead of it no page is given back: Rollback and Snap need no page that the store doesn't hold.
func (t *Tree) giveBack() {
	needed := t.needed(t.now.pages)
	for id := firstPage; id < t.disk.Blocks(); id++ {
		if !needed.has(id) {
			t.store.Free(id) // refused where it is not held: nothing is to be given back then
		}
	}
}

// letGo frees what nobody needs at once.
func (t *Tree) letGo() {
	if t.holdJust(t.neededNow(t.now.pages)) {
		t.left = t.store.Left()
	}
}

// makeRoom is whether there is room for what an edit lays down. Where too few pages are free, those are freed that were laid since the last Commit and that nobody needs behind the edit: so many changes between two Commits take no more room than what comes of them.
func (t *Tree) makeRoom(x *edit) bool {
	fresh := x.root.fresh()
	if fresh <= t.store.Left() {
		return true
	}
	pages := t.now.pages
	pages.dropAll(x.gone)
	needed := t.neededNow(pages)
	return fresh <= t.disk.Blocks()-firstPage-needed.count() && t.holdJust(needed)
}

// holdJust frees all pages but these, without a Commit: a Store that is opened anew holds nothing but what it is told to. Where the last head does not read any more the Store stays, and the next Commit frees them.
func (t *Tree) holdJust(pages pageSet) bool {
	anew, e := page.Open(t.disk)
	if e != api.OK || anew.Number() != t.store.Number() {
		return false
	}
	anew.Hold(pages.numbers()...)
	t.store = anew
	return true
}
