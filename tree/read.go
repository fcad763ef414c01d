package tree

import (
	"bytes"

	"headland/api"
	"headland/page"
)

// refusal is what a call that is about a key is refused by, whatever the pages are.
func (t *Tree) refusal(key []byte) api.Errno {
	switch {
	case t.Dead():
		return api.ErrDown
	case len(key) == 0:
		return api.ErrArg
	case len(key) > api.MaxKey:
		return api.ErrLong
	}
	return api.OK
}

func (t *Tree) get(s *state, key []byte) (value []byte, is bool, e api.Errno) {
	if e := t.refusal(key); e != api.OK {
		return nil, false, e
	}
	e = caught(func() api.Errno {
		value, is = valueIn(t.store, s, key)
		return api.OK
	})
	return value, is, e
}

func valueIn(s *page.Store, of *state, key []byte) ([]byte, bool) {
	at := place(of.root)
	for height := of.depth; height > 0; height-- {
		n := loadedAt(s, at, height)
		i, is := find(itemsOf(n), key)
		if is {
			return itemsOf(n)[i].value, true
		}
		if b, ok := n.(*branch); ok {
			at = b.children[i].(place)
		}
	}
	return nil, false
}

// span is what a Range asks for, and what it found so far.
type span struct {
	lo, hi []byte
	most   int
	found  []api.Pair
}

func (t *Tree) pairs(s *state, r *span) ([]api.Pair, api.Errno) {
	switch {
	case t.Dead():
		return nil, api.ErrDown
	case r.most < 0:
		return nil, api.ErrArg
	case len(r.lo) > api.MaxKey || len(r.hi) > api.MaxKey:
		return nil, api.ErrLong
	case r.most == 0 || s.root == noPage || r.ends(r.lo):
		return nil, api.OK
	}
	e := caught(func() api.Errno {
		r.look(t.store, place(s.root), s.depth)
		return api.OK
	})
	if e != api.OK {
		return nil, e
	}
	return r.found, api.OK
}

// ends is whether a key is not below the span's end.
func (r *span) ends(key []byte) bool {
	return len(r.hi) > 0 && bytes.Compare(key, r.hi) >= 0
}

// look goes through a page and what it leads to, in order, and is whether there may be more behind it.
func (r *span) look(s *page.Store, p place, height int) bool {
	n := loadedAt(s, p, height)
	items := itemsOf(n)
	first, is := find(items, r.lo)
	b, ok := n.(*branch)
	for i := first; i <= len(items); i++ {
		// What is ahead of the span's first key is not in it.
		ahead := is && i == first
		if ok && !ahead && !r.look(s, b.children[i].(place), height-1) {
			return false
		}
		if i < len(items) && !r.take(items[i]) {
			return false
		}
	}
	return true
}

// take tells an item, if it is in the span, and is whether there may be more behind it.
func (r *span) take(it item) bool {
	if r.ends(it.key) {
		return false
	}
	r.found = append(r.found, api.Pair{Key: it.key, Value: it.value})
	return len(r.found) < r.most
}

// lookedThrough is what there is of a tree that has such a root: each of its pages is read.
func lookedThrough(s *page.Store, root int) (found state, e api.Errno) {
	if root == noPage {
		return state{}, api.OK
	}
	e = caught(func() api.Errno {
		found.root = root
		found.depth = found.walk(s, place(root), nil, nil)
		return api.OK
	})
	if e != api.OK {
		return state{}, e
	}
	return found, api.OK
}

// walk counts a page and what it leads to, and is how long the ways from it to a leaf are. Its keys must be above lo and below hi (none: below nothing): so no page can lead to itself, or be led to twice.
func (found *state) walk(s *page.Store, p place, lo, hi []byte) int {
	n := loaded(s, p)
	items := itemsOf(n)
	must(int(p) == found.root || len(items) >= fewestKeys)
	must(bytes.Compare(items[0].key, lo) > 0)
	must(len(hi) == 0 || bytes.Compare(items[len(items)-1].key, hi) < 0)
	found.keys += len(items)
	found.pages.add(int(p))
	b, ok := n.(*branch)
	if !ok {
		return 1
	}
	height := 0
	for i, c := range b.children {
		above, below := lo, hi
		if i > 0 {
			above = items[i-1].key
		}
		if i < len(items) {
			below = items[i].key
		}
		length := found.walk(s, c.(place), above, below)
		must(i == 0 || length == height)
		height = length
	}
	return height + 1
}
