package tree

import (
	"bytes"
	"fmt"
	"slices"
	"strings"
	"testing"

	"headland/api"
	"headland/disk"
	"headland/page"
)

const keepAll = 1<<64 - 1

func newDisk(t *testing.T, blocks int) *disk.Disk {
	t.Helper()
	d, e := disk.New(blocks)
	if e != api.OK {
		t.Fatalf("3.1: New(%d): %d", blocks, e)
	}
	return d
}

func mustOpen(t *testing.T, d *disk.Disk) *Tree {
	t.Helper()
	x, e := Open(d)
	if x == nil || e != api.OK {
		t.Fatalf("5.1: Open: %v, %d", x, e)
	}
	return x
}

func newTree(t *testing.T, blocks int) (*Tree, *disk.Disk) {
	t.Helper()
	d := newDisk(t, blocks)
	return mustOpen(t, d), d
}

func mustTell(t *testing.T, got, want api.Errno, why string) {
	t.Helper()
	if got != want {
		t.Fatalf("%s: %d, not %d", why, got, want)
	}
}

func mustPut(t *testing.T, x *Tree, key, value string) {
	t.Helper()
	mustTell(t, x.Put([]byte(key), []byte(value)), api.OK, "5.2: Put of "+key)
}

func mustDelete(t *testing.T, x *Tree, key string, want bool) {
	t.Helper()
	if was, e := x.Delete([]byte(key)); was != want || e != api.OK {
		t.Fatalf("5.2: Delete of %q: %v, %d; not %v", key, was, e, want)
	}
}

func mustCommit(t *testing.T, x *Tree) {
	t.Helper()
	mustTell(t, x.Commit(), api.OK, "5.3: Commit")
}

func mustSnap(t *testing.T, x *Tree) *Snap {
	t.Helper()
	s, e := x.Snap()
	if s == nil || e != api.OK {
		t.Fatalf("5.4: Snap: %v, %d", s, e)
	}
	return s
}

// reader is a Tree or a Snap.
type reader interface {
	Get(key []byte) ([]byte, bool, api.Errno)
	Range(lo, hi []byte, most int) ([]api.Pair, api.Errno)
}

func mustGet(t *testing.T, r reader, key, want, why string) {
	t.Helper()
	if v, is, e := r.Get([]byte(key)); string(v) != want || !is || e != api.OK {
		t.Fatalf("%s: Get of %q: %q, %v, %d; not %q", why, key, v, is, e, want)
	}
}

// mustNotGet says that there is no such key (api.OK), or by what Get is refused.
func mustNotGet(t *testing.T, r reader, key []byte, want api.Errno, why string) {
	t.Helper()
	if v, is, e := r.Get(key); len(v) != 0 || is || e != want {
		t.Fatalf("%s: Get of %q: %q, %v, %d; not %d", why, key, v, is, e, want)
	}
}

func mustRange(t *testing.T, r reader, lo, hi string, most int, want, why string) {
	t.Helper()
	l, e := r.Range([]byte(lo), []byte(hi), most)
	if got := spelled(l); got != want || e != api.OK {
		t.Fatalf("%s: Range of %q, %q, %d: %s, %d; not %s", why, lo, hi, most, got, e, want)
	}
}

func mustNotRange(t *testing.T, r reader, lo, hi []byte, most int, want api.Errno, why string) {
	t.Helper()
	if l, e := r.Range(lo, hi, most); len(l) != 0 || e != want {
		t.Fatalf("%s: Range of %q, %q, %d: %d pairs, %d; not %d", why, lo, hi, most, len(l), e, want)
	}
}

const plenty = 1 << 40

func mustBe(t *testing.T, r reader, want, why string) {
	t.Helper()
	mustRange(t, r, "", "", plenty, want, why)
}

func spelled(l []api.Pair) string {
	var s []string
	for _, p := range l {
		if p.Space != 0 {
			return "a pair of another space"
		}
		s = append(s, string(p.Key)+"="+string(p.Value))
	}
	return strings.Join(s, " ")
}

// numbered is a key of four bytes.
func numbered(i int) string { return fmt.Sprintf("%04d", i) }

// grown is a tree with the keys from 0 on, that many, on a disk of so many blocks; committed.
func grown(t *testing.T, blocks, keys int) (*Tree, *disk.Disk) {
	t.Helper()
	x, d := newTree(t, blocks)
	for i := range keys {
		mustPut(t, x, numbered(i), fmt.Sprint(i))
		mustCommit(t, x)
	}
	return x, d
}

// told is all that a tree tells without an Errno.
type told struct {
	keys, number, depth, pages, left int
}

func allTold(x *Tree) told {
	return told{x.Len(), x.Number(), x.Depth(), x.Pages(), x.Left()}
}

func mustHaveTold(t *testing.T, x *Tree, want told, why string) {
	t.Helper()
	if got := allTold(x); got != want {
		t.Fatalf("%s: it tells %v, not %v", why, got, want)
	}
}

// pagesOf is the pages that a root leads to, in the order of their keys, read by a Store of its own.
func pagesOf(t *testing.T, d *disk.Disk, root int) []int {
	t.Helper()
	if root == 0 {
		return nil
	}
	s, e := page.Open(d)
	mustTell(t, e, api.OK, "4.1: Open")
	b, e := s.Get(root)
	mustTell(t, e, api.OK, "5.5: a page")
	l := []int{root}
	if n, ok := nodeOf(b).(*branch); ok {
		for _, c := range n.children {
			l = append(l, pagesOf(t, d, int(c.(place)))...)
		}
	}
	return l
}

// shape is the keys that a page leads to, in their order, and how long the ways from it are (-1: not equally long).
func shape(t *testing.T, s *page.Store, id, fewest int) ([]string, int) {
	t.Helper()
	b, e := s.Get(id)
	mustTell(t, e, api.OK, "5.5: a page")
	n := nodeOf(b)
	items := itemsOf(n)
	if len(items) < fewest || len(items) > 4 {
		t.Fatalf("5.5: a page with %d keys", len(items))
	}
	var keys []string
	length := 0
	for i := range len(items) + 1 {
		if n, ok := n.(*branch); ok {
			below, long := shape(t, s, int(n.children[i].(place)), 2)
			if keys = append(keys, below...); i > 0 && long != length {
				t.Fatalf("5.5: ways of %d and %d pages", length, long)
			}
			length = long
		}
		if i < len(items) {
			keys = append(keys, string(items[i].key))
		}
	}
	return keys, length + 1
}

// mustBeWellShaped says that 5.5's first sentences hold, by the pages alone.
func mustBeWellShaped(t *testing.T, x *Tree, d *disk.Disk) {
	t.Helper()
	mustTell(t, x.Check(), api.OK, "5.5: Check")
	pages := pagesOf(t, d, x.now.root)
	if len(pages) != x.Pages() || x.Pages() > x.Len() {
		t.Fatalf("5.5: %d pages, told %d, of %d keys", len(pages), x.Pages(), x.Len())
	}
	slices.Sort(pages)
	if len(slices.Compact(pages)) != x.Pages() {
		t.Fatal("5.5: a page that is led to twice")
	}
	if x.now.root == 0 {
		if x.Depth() != 0 || x.Len() != 0 {
			t.Fatalf("5.5: no page, told a depth of %d and %d keys", x.Depth(), x.Len())
		}
		return
	}
	s, e := page.Open(d)
	mustTell(t, e, api.OK, "4.1: Open")
	keys, depth := shape(t, s, x.now.root, 1)
	if depth != x.Depth() || len(keys) != x.Len() {
		t.Fatalf("5.5: ways of %d pages, %d keys; told %d, %d", depth, len(keys), x.Depth(), x.Len())
	}
	if !slices.IsSorted(keys) || len(slices.Compact(keys)) != x.Len() {
		t.Fatalf("5.5: keys out of order: %q", keys)
	}
}

// mustHaveRoom says that all pages that the tree does not have are free.
func mustHaveRoom(t *testing.T, x *Tree, d *disk.Disk, why string) {
	t.Helper()
	if x.Left()+x.Pages()+2 != d.Blocks() {
		t.Fatalf("5.5: %s: %d left, %d pages of %d blocks", why, x.Left(), x.Pages(), d.Blocks())
	}
}

// packed is a tree of the same pages, with other numbers, on a disk on which so many more are left.
func packed(t *testing.T, x *Tree, d *disk.Disk, left int) (*Tree, *disk.Disk) {
	t.Helper()
	from, e := page.Open(d)
	mustTell(t, e, api.OK, "4.1: Open")
	smaller := newDisk(t, x.Pages()+left+2)
	to, e := page.Open(smaller)
	mustTell(t, e, api.OK, "4.1: Open")
	root := x.now.root
	if root != noPage {
		root = copied(t, from, to, root)
	}
	mustTell(t, to.Commit(root), api.OK, "4.3: Commit")
	y := mustOpen(t, smaller)
	if y.Left() != left || y.Len() != x.Len() || y.Depth() != x.Depth() {
		t.Fatalf("5.5: a tree of the same pages: %v, not %v with %d left", allTold(y), allTold(x), left)
	}
	return y, smaller
}

// copied is the number under which a page stands in another Store, behind what it leads to.
func copied(t *testing.T, from, to *page.Store, id int) int {
	t.Helper()
	b, e := from.Get(id)
	mustTell(t, e, api.OK, "5.5: a page")
	n := nodeOf(b)
	if n, ok := n.(*branch); ok {
		for i, c := range n.children {
			n.children[i] = place(copied(t, from, to, int(c.(place))))
		}
	}
	id, e = to.Put(bytesOf(n))
	mustTell(t, e, api.OK, "4.2: Put")
	return id
}

// spacious is bytes with spare room, and all of the room.
func spacious(s string) (part, room []byte) {
	room = append([]byte(s), bytes.Repeat([]byte{0xee}, 40)...)
	return room[:len(s)], room
}
