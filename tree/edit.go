package tree

import (
	"slices"

	"headland/api"
	"headland/page"
)

// edit is a tree that is changed in memory, so that it is known how many pages that takes before one is laid down.
type edit struct {
	store *page.Store
	root  node
	depth int
	keys  int
	gone  []place // in whose place fresh pages stand
	laid  []place
}

// change makes a change of the tree as it is now, if there is room for it. What the change answers is whether there is anything to change.
func (t *Tree) change(how func(*edit) bool) api.Errno {
	return caught(func() api.Errno {
		x := &edit{store: t.store, root: place(t.now.root), depth: t.now.depth, keys: t.now.keys}
		if !how(x) {
			return api.OK
		}
		if !t.makeRoom(x) {
			return api.ErrFull
		}
		root, e := x.lay(t.store, x.root)
		if e != api.OK {
			return e
		}
		t.take(x, root)
		return api.OK
	})
}

func (t *Tree) take(x *edit, root place) {
	t.now.root, t.now.depth, t.now.keys = int(root), x.depth, x.keys
	t.now.pages.dropAll(x.gone)
	for _, p := range x.laid {
		t.now.pages.add(int(p))
	}
	t.left = t.store.Left()
}

// lay lays down what is fresh, the children ahead of what leads to them.
func (x *edit) lay(s *page.Store, n node) (place, api.Errno) {
	if p, ok := n.(place); ok {
		return p, api.OK
	}
	if b, ok := n.(*branch); ok {
		for i, c := range b.children {
			p, e := x.lay(s, c)
			if e != api.OK {
				return noPage, e
			}
			b.children[i] = p
		}
	}
	id, e := s.Put(bytesOf(n))
	if e != api.OK {
		return noPage, e
	}
	x.laid = append(x.laid, place(id))
	return place(id), api.OK
}

// opened is a page that may be changed: its place is another one's from now on.
func (x *edit) opened(n node, height int) node {
	p, ok := n.(place)
	if !ok {
		return n
	}
	x.gone = append(x.gone, p)
	return loadedAt(x.store, p, height)
}

func (x *edit) put(it item) bool {
	if x.depth == 0 {
		x.root, x.depth = &leaf{}, 1
	}
	x.root = x.putIn(x.root, x.depth, it)
	x.settleRoot()
	return true
}

func (x *edit) putIn(n node, height int, it item) node {
	n = x.opened(n, height)
	b, ok := n.(*branch)
	if !ok {
		l := n.(*leaf)
		x.putInLeaf(l, it)
		return l
	}
	i, is := find(b.items, it.key)
	if is {
		b.items[i] = it
		return b
	}
	b.children[i] = x.putIn(b.children[i], height-1, it)
	x.settle(b, i, height-1)
	return b
}

func (x *edit) putInLeaf(l *leaf, it item) {
	i, is := find(l.items, it.key)
	if is {
		l.items[i] = it
		return
	}
	l.items = slices.Insert(l.items, i, it)
	x.keys++
}

func (x *edit) delete(key []byte) bool {
	if x.depth == 0 {
		return false
	}
	root, was := x.deleteIn(x.root, x.depth, key)
	if !was {
		return false
	}
	x.root = root
	x.keys--
	x.settleRoot()
	return true
}

// deleteIn is a page without a key, and whether the key was there: if it was not, nothing of the edit counts.
func (x *edit) deleteIn(n node, height int, key []byte) (node, bool) {
	n = x.opened(n, height)
	i, is := find(itemsOf(n), key)
	b, ok := n.(*branch)
	if !ok {
		l := n.(*leaf)
		if is {
			l.items = slices.Delete(l.items, i, i+1)
		}
		return l, is
	}
	if is {
		b.children[i], b.items[i] = x.withoutLast(b.children[i], height-1)
	} else if b.children[i], is = x.deleteIn(b.children[i], height-1, key); !is {
		return b, false
	}
	x.settle(b, i, height-1)
	return b, true
}

// withoutLast is a page without the last item of what it leads to, and that item: it takes the place of one that is deleted in a branch.
func (x *edit) withoutLast(n node, height int) (node, item) {
	n = x.opened(n, height)
	end := len(itemsOf(n))
	b, ok := n.(*branch)
	if !ok {
		l := n.(*leaf)
		last := l.items[end-1]
		l.items = l.items[:end-1]
		return l, last
	}
	child, last := x.withoutLast(b.children[end], height-1)
	b.children[end] = child
	x.settle(b, end, height-1)
	return b, last
}

// settleRoot lets the root have its count of keys: the tree grows and shrinks here alone, so that all ways stay equally long.
func (x *edit) settleRoot() {
	count := len(itemsOf(x.root))
	b, ok := x.root.(*branch)
	switch {
	case count > mostKeys:
		above := &branch{children: []node{x.root}}
		above.split(0)
		x.root, x.depth = above, x.depth+1
	case count == 0 && ok:
		x.root, x.depth = b.children[0], x.depth-1
	case count == 0:
		x.root, x.depth = place(noPage), 0
	}
}

// settle lets a child that was changed have its count of keys.
func (x *edit) settle(b *branch, i, height int) {
	if len(itemsOf(b.children[i])) < fewestKeys {
		i = max(i-1, 0)
		left, right := x.opened(b.children[i], height), x.opened(b.children[i+1], height)
		b.merge(i, left, right)
	}
	if len(itemsOf(b.children[i])) > mostKeys {
		b.split(i)
	}
}
