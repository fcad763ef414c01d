package tree

import (
	"bytes"

	"headland/api"
	"headland/page"
	"headland/wire"
)

// A page's bytes begin with its kind.
const (
	leafKind = iota + 1
	branchKind
)

// bytesOf is a page's bytes: of a branch each child must have its place.
func bytesOf(n node) []byte {
	b, ok := n.(*branch)
	if !ok {
		return itemBytes(leafKind, n.(*leaf).items)
	}
	l := itemBytes(branchKind, b.items)
	for _, c := range b.children {
		l = append(l, wire.Uint(int(c.(place)))...)
	}
	return l
}

func itemBytes(kind int, items []item) []byte {
	b := append(wire.Uint(kind), wire.Uint(len(items))...)
	for _, it := range items {
		b = append(b, wire.Bytes(it.key)...)
		b = append(b, wire.Bytes(it.value)...)
	}
	return b
}

// must panics where a page is not what a page of a tree is.
func must(holds bool) {
	if !holds {
		panic(api.ErrCorrupt)
	}
}

// caught is what a call tells, or that it met a page that is none of a tree, or of another kind than it must be.
func caught(call func() api.Errno) (e api.Errno) {
	defer func() {
		if recover() != nil {
			e = api.ErrCorrupt
		}
	}()
	return call()
}

// loaded is a page as it is on the disk.
func loaded(s *page.Store, p place) node {
	b, e := s.Get(int(p))
	must(e == api.OK)
	return nodeOf(b)
}

// loadedAt is a page from which a way to a leaf has so many pages, itself counted: that says of which kind it must be.
func loadedAt(s *page.Store, p place, height int) node {
	n := loaded(s, p)
	if height == 1 {
		return n.(*leaf)
	}
	return n.(*branch)
}

func nodeOf(b []byte) node {
	r := &reading{bytes: b}
	kind, items := r.number(), r.items()
	if kind == leafKind {
		must(r.at == len(b))
		return &leaf{items}
	}
	must(kind == branchKind)
	children := r.places(len(items) + 1)
	must(r.at == len(b))
	return &branch{items, children}
}

// reading is bytes that must be a page's.
type reading struct {
	bytes []byte
	at    int
}

func (r *reading) number() int {
	n, next, e := wire.ReadUint(r.bytes, r.at)
	must(e == api.OK)
	r.at = next
	return n
}

func (r *reading) text(most int) []byte {
	b, next, e := wire.ReadBytes(r.bytes, r.at, most)
	must(e == api.OK)
	r.at = next
	return b
}

func (r *reading) items() []item {
	count := r.number()
	must(count >= 1 && count <= mostKeys)
	l := make([]item, count)
	var ahead []byte // an empty one: so the first key can't be empty
	for i := range l {
		l[i].key = r.text(api.MaxKey)
		l[i].value = r.text(api.MaxValue)
		must(bytes.Compare(l[i].key, ahead) > 0)
		ahead = l[i].key
	}
	return l
}

func (r *reading) places(count int) []node {
	l := make([]node, count)
	for i := range l {
		l[i] = place(r.number())
	}
	return l
}
