package tree

import (
	"bytes"
	"slices"
)

const (
	mostKeys   = 4 // of a page
	fewestKeys = 2 // of a page that is not the root
)

// node is a page of a tree: a leaf or a branch, or the place of one that was not read.
type node interface {
	// fresh is how many pages it takes to lay it down.
	fresh() int
}

type item struct {
	key, value []byte
}

type leaf struct {
	items []item
}

// branch has one child more than items: the keys of a child are between those of the items beside it.
type branch struct {
	items    []item
	children []node
}

type place int

func (p place) fresh() int { return 0 }

func (l *leaf) fresh() int { return 1 }

func (b *branch) fresh() int {
	n := 1
	for _, c := range b.children {
		n += c.fresh()
	}
	return n
}

// itemsOf is the items of a page that was read.
func itemsOf(n node) []item {
	if b, ok := n.(*branch); ok {
		return b.items
	}
	return n.(*leaf).items
}

// find is where a key is, or would have to be, and whether it is there.
func find(l []item, key []byte) (int, bool) {
	return slices.BinarySearchFunc(l, key, func(it item, key []byte) int { return bytes.Compare(it.key, key) })
}

// merge makes one child of two neighbours and of the item between them.
func (b *branch) merge(i int, left, right node) {
	items := slices.Concat(itemsOf(left), b.items[i:i+1], itemsOf(right))
	var one node = &leaf{items}
	if l, ok := left.(*branch); ok {
		one = &branch{items, slices.Concat(l.children, right.(*branch).children)}
	}
	b.items = slices.Delete(b.items, i, i+1)
	b.children = slices.Replace(b.children, i, i+2, one)
}

// split makes two children of one, with the item in the middle between them.
func (b *branch) split(i int) {
	items := itemsOf(b.children[i])
	middle := len(items) / 2
	var left, right node = &leaf{items[:middle]}, &leaf{items[middle+1:]}
	if c, ok := b.children[i].(*branch); ok {
		left = &branch{items[:middle], c.children[:middle+1]}
		right = &branch{items[middle+1:], c.children[middle+1:]}
	}
	b.items = slices.Insert(b.items, i, items[middle])
	b.children = slices.Replace(b.children, i, i+1, left, right)
}
