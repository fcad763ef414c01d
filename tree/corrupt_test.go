package tree

import (
	"fmt"
	"slices"
	"strings"
	"testing"

	"headland/api"
	"headland/disk"
	"headland/page"
)

func mustNotOpen(t *testing.T, d *disk.Disk, want api.Errno, why string) {
	t.Helper()
	if x, e := Open(d); x != nil || e != want {
		t.Fatalf("5.1: Open of %s: %v, %d; not %d", why, x, e, want)
	}
}

func TestOpenIsRefused(t *testing.T) {
	mustNotOpen(t, nil, api.ErrArg, "no disk")
	for blocks := 1; blocks <= 2; blocks++ {
		mustNotOpen(t, newDisk(t, blocks), api.ErrArg, "a small disk")
	}
	_, d := grown(t, 60, 9)
	d.Cut(disk.Loss{Torn: -1})
	mustNotOpen(t, d, api.ErrDown, "a disk without power")
	d.Restart()
	mustBe(t, mustOpen(t, d), "0000=0 0001=1 0002=2 0003=3 0004=4 0005=5 0006=6 0007=7 0008=8", "5.1: with power again")
	d.Flip(0, 3)
	d.Flip(1, 3)
	mustNotOpen(t, d, api.ErrCorrupt, "a disk without a head")
}

// laidTree is a disk whose root is the last of some pages, which are numbered from 2 on.
func laidTree(t *testing.T, pages ...[]byte) *disk.Disk {
	t.Helper()
	d := newDisk(t, 60)
	s, e := page.Open(d)
	mustTell(t, e, api.OK, "4.1: Open")
	root := 0
	for _, b := range pages {
		root, e = s.Put(b)
		mustTell(t, e, api.OK, "4.2: Put")
	}
	mustTell(t, s.Commit(root), api.OK, "4.3: Commit")
	return d
}

func listed(keys string) []item {
	var l []item
	for _, k := range strings.Fields(keys) {
		l = append(l, item{[]byte(k), []byte("v")})
	}
	return l
}

func leafPage(keys string) []byte { return bytesOf(&leaf{listed(keys)}) }

func branchPage(keys string, children ...int) []byte {
	b := &branch{items: listed(keys)}
	for _, c := range children {
		b.children = append(b.children, place(c))
	}
	return bytesOf(b)
}

func TestOpenOfHandLaidTrees(t *testing.T) {
	for _, c := range []struct {
		pages             [][]byte
		keys, depth, many int
	}{
		{nil, 0, 0, 0},
		{[][]byte{leafPage("a")}, 1, 1, 1},
		{[][]byte{leafPage("x y z"), leafPage("a b c d")}, 4, 1, 1},
		{[][]byte{leafPage("a b"), leafPage("d e f g"), branchPage("c", 2, 3)}, 7, 2, 3},
		{[][]byte{leafPage("m n"), leafPage("a b"), leafPage("d e"), leafPage("g h"), leafPage("j k"), branchPage("c f i l", 3, 4, 5, 6, 2)}, 14, 2, 6},
	} {
		x := mustOpen(t, laidTree(t, c.pages...))
		mustHaveTold(t, x, told{c.keys, 1, c.depth, c.many, 58 - c.many}, "5.1: a tree that was laid by hand")
		mustTell(t, x.Check(), api.OK, "5.5: Check")
		l, _ := x.Range(nil, nil, 99)
		if len(l) != c.keys || !slices.IsSortedFunc(l, func(a, b api.Pair) int { return strings.Compare(string(a.Key), string(b.Key)) }) {
			t.Errorf("5.1: a tree that was laid by hand: %s", spelled(l))
		}
	}
}

// wrongPages are bytes that are no page of a tree.
func wrongPages() map[string][]byte {
	leafed, branched := leafPage("a b"), branchPage("c", 2, 3)
	m := map[string][]byte{
		"empty":                  {},
		"a text":                 []byte("no page of a tree"),
		"zeros":                  make([]byte, 200),
		"a full page of 1":       []byte(strings.Repeat("\x01", 8186)),
		"no such kind 0":         append([]byte{0}, leafed[1:]...),
		"no such kind 3":         append([]byte{3}, leafed[1:]...),
		"a branch of no kind 3":  append([]byte{3}, branched[1:]...),
		"a leaf as a branch":     append([]byte{branchKind}, leafed[1:]...),
		"a branch as a leaf":     append([]byte{leafKind}, branched[1:]...),
		"a leaf and a byte":      append(leafPage("a b"), 0),
		"a branch and a byte":    append(branchPage("c", 2, 3), 4),
		"a leaf of no key":       leafPage(""),
		"a leaf of five keys":    leafPage("a b c d e"),
		"a branch of no key":     branchPage("", 2),
		"a branch of five keys":  branchPage("c f i l o", 2, 3, 4, 5, 6, 7),
		"keys out of order":      leafPage("b a"),
		"a key twice":            leafPage("a a"),
		"a longer key ahead":     leafPage("aa a"),
		"an empty key":           {leafKind, 1, 0, 1, 'v'},
		"a long key":             leafPage(strings.Repeat("k", 65)),
		"a long value":           bytesOf(&leaf{[]item{{[]byte("k"), make([]byte, 1801)}}}),
		"an unordered branch":    branchPage("c b", 2, 3, 4),
		"too few children":       branchPage("c", 2),
		"a count with nothing":   {leafKind, 4},
		"a count in two bytes":   {leafKind, 128, 1, 1, 'a', 0},
		"a kind in two bytes":    {128, leafKind, 1, 1, 'a', 0},
		"a child in many bytes":  append(branchPage("c", 2), 255, 255, 255, 255, 255, 255, 255, 255, 255, 127),
		"a value without an end": {leafKind, 1, 1, 'a', 9, 'v'},
	}
	for i := range leafed {
		m[fmt.Sprint("a leaf cut at ", i)] = leafed[:i]
	}
	for i := range branched {
		m[fmt.Sprint("a branch cut at ", i)] = branched[:i]
	}
	return m
}

func TestNoPageOfATree(t *testing.T) {
	for why, b := range wrongPages() {
		mustNotOpen(t, laidTree(t, leafPage("a b"), leafPage("d e"), b), api.ErrCorrupt, "a root that is "+why)
		mustNotOpen(t, laidTree(t, leafPage("a b"), b, branchPage("c", 2, 3)), api.ErrCorrupt, "a child that is "+why)
	}
}

// TestNoPageUnderATree: a root that became something else while its tree is open.
func TestNoPageUnderATree(t *testing.T) {
	for why, b := range wrongPages() {
		x, d := grown(t, 60, 5)
		was := allTold(x)
		block, _ := laidTree(t, b).Read(2)
		d.Write(x.now.root, block)
		key := []byte(numbered(1))
		mustNotGet(t, x, key, api.ErrCorrupt, "5.2: a root that is "+why)
		mustNotRange(t, x, nil, nil, 9, api.ErrCorrupt, "5.2: a root that is "+why)
		mustTell(t, x.Put(key, nil), api.ErrCorrupt, "5.2: Put into a root that is "+why)
		mustTell(t, deleting(x, numbered(1)), api.ErrCorrupt, "5.2: Delete in a root that is "+why)
		mustTell(t, x.Check(), api.ErrCorrupt, "5.5: Check of a root that is "+why)
		mustHaveTold(t, x, was, "rule 4: behind ErrCorrupt")
	}
}

// TestNoTree: pages that are pages of trees, but not of one tree.
func TestNoTree(t *testing.T) {
	for why, pages := range map[string][][]byte{
		"a leaf of one key":                 {leafPage("a"), leafPage("d e"), branchPage("c", 2, 3)},
		"a last leaf of one key":            {leafPage("a b"), leafPage("d"), branchPage("c", 2, 3)},
		"a branch of one key":               {leafPage("a b"), leafPage("d e"), branchPage("c", 2, 3), leafPage("g h"), leafPage("j k"), leafPage("m n"), branchPage("i l", 5, 6, 7), branchPage("f", 4, 8)},
		"a key above its bound":             {leafPage("a d"), leafPage("e f"), branchPage("c", 2, 3)},
		"a key at its bound":                {leafPage("a c"), leafPage("d e"), branchPage("c", 2, 3)},
		"a key below its bound":             {leafPage("a b"), leafPage("b e"), branchPage("c", 2, 3)},
		"a key at its lower bound":          {leafPage("a b"), leafPage("c e"), branchPage("c", 2, 3)},
		"leaves in turned order":            {leafPage("d e"), leafPage("a b"), branchPage("c", 2, 3)},
		"a leaf that is led to twice":       {leafPage("a b"), branchPage("c", 2, 2)},
		"a root that leads to itself":       {leafPage("a b"), branchPage("c", 2, 3)},
		"a root that leads to itself first": {leafPage("d e"), branchPage("c", 3, 2)},
		"a branch that leads to the root":   {leafPage("a b"), leafPage("d e"), branchPage("c f", 2, 3, 5), branchPage("h", 4, 4)},
		"uneven ways":                       {leafPage("a b"), leafPage("d e"), leafPage("g h"), branchPage("c f", 2, 3, 4), leafPage("k l"), branchPage("j", 5, 6)},
		"uneven ways at the end":            {leafPage("k l"), leafPage("n o"), leafPage("q r"), branchPage("m p", 2, 3, 4), leafPage("a b"), branchPage("j", 6, 5)},
		"a child that is no page":           {leafPage("a b"), branchPage("c", 2, 1)},
		"a child that is none":              {leafPage("a b"), branchPage("c", 2, 0)},
		"a child behind the disk":           {leafPage("a b"), branchPage("c", 2, 60)},
		"a child far behind the disk":       {leafPage("a b"), branchPage("c", 2, 1<<62)},
		"a child that was never written":    {leafPage("a b"), branchPage("c", 2, 9)},
		"bounds of a level above":           {leafPage("a b"), leafPage("d e"), leafPage("g z"), branchPage("c f", 2, 3, 4), leafPage("k l"), leafPage("n o"), leafPage("q r"), branchPage("m p", 6, 7, 8), branchPage("j", 5, 9)},
		"lower bounds of a level above":     {leafPage("a b"), leafPage("d e"), leafPage("g h"), branchPage("c f", 2, 3, 4), leafPage("i l"), leafPage("n o"), leafPage("q r"), branchPage("m p", 6, 7, 8), branchPage("j", 5, 9)},
	} {
		mustNotOpen(t, laidTree(t, pages...), api.ErrCorrupt, why)
	}
}

// TestPagesInOtherOnesPlaces: under a tree that is open each call ends, whatever its pages lead to.
func TestPagesInOtherOnesPlaces(t *testing.T) {
	x, d := grown(t, 200, 40)
	was, all := allTold(x), spelledAll(t, x)
	pages := pagesOf(t, d, x.now.root)
	for _, a := range pages {
		for _, b := range pages {
			if a == b {
				continue
			}
			own, _ := d.Read(a)
			other, _ := d.Read(b)
			d.Write(a, other)
			mustTell(t, x.Check(), api.ErrCorrupt, "5.5: Check of a page in another one's place")
			if a != x.now.root { // what a child leads to is a tree of its own
				mustNotOpen(t, d, api.ErrCorrupt, "a page in another one's place")
			}
			for i := range 41 {
				key := []byte(numbered(i))
				x.Get(key)
				if i%9 == 0 {
					x.Range(key, nil, 3)
					x.Put(key, nil)
					x.Delete(key)
				}
			}
			d.Write(a, own)
			mustTell(t, x.Rollback(), api.OK, "5.3: Rollback")
			mustHaveTold(t, x, was, "5.3: Rollback")
			mustBe(t, x, all, "5.3: Rollback")
		}
	}
}

// TestATreeOfAnotherDepth: Check holds the ways against Depth.
func TestATreeOfAnotherDepth(t *testing.T) {
	x, d := grown(t, 60, 8)
	pages := pagesOf(t, d, x.now.root)
	block, _ := d.Read(pages[1])
	d.Write(x.now.root, block)
	mustTell(t, x.Check(), api.ErrCorrupt, "5.5: Check of a root that became a leaf")
	mustNotGet(t, x, []byte("0000"), api.ErrCorrupt, "5.2: a root that became a leaf")
	mustNotRange(t, x, nil, nil, 9, api.ErrCorrupt, "5.2: a root that became a leaf")
	mustTell(t, x.Put([]byte("0000"), nil), api.ErrCorrupt, "5.2: Put into a root that became a leaf")
}

// wayTo is the pages on the way to a key.
func wayTo(t *testing.T, d *disk.Disk, root int, key string) []int {
	t.Helper()
	s, e := page.Open(d)
	mustTell(t, e, api.OK, "4.1: Open")
	var l []int
	for {
		l = append(l, root)
		b, e := s.Get(root)
		mustTell(t, e, api.OK, "5.5: a page")
		n := nodeOf(b)
		i, is := find(itemsOf(n), []byte(key))
		b2, ok := n.(*branch)
		if is || !ok {
			return l
		}
		root = int(b2.children[i].(place))
	}
}

// TestATurnedBit: in each page of a tree, and in one that it does not have.
func TestATurnedBit(t *testing.T) {
	x, d := grown(t, 100, 40)
	all, was := spelledAll(t, x), allTold(x)
	pages := pagesOf(t, d, x.now.root)
	s := mustSnap(t, x)
	for _, id := range append(pages, 99) {
		d.Flip(id, 77)
		want := api.OK
		if id != 99 {
			want = api.ErrCorrupt
		}
		mustTell(t, x.Check(), want, "5.5: Check")
		if _, e := Open(d); e != want {
			t.Fatalf("5.1: Open of a tree with a turned bit: %d, not %d", e, want)
		}
		for i := range 40 {
			d.Flip(id, 77)
			way := wayTo(t, d, x.now.root, numbered(i))
			d.Flip(id, 77)
			for _, r := range []reader{x, s} {
				if slices.Contains(way, id) {
					mustNotGet(t, r, []byte(numbered(i)), api.ErrCorrupt, "5.2: a page on the way does not read")
					mustNotRange(t, r, []byte(numbered(i)), nil, 1, api.ErrCorrupt, "5.2: a page on the way does not read")
				} else {
					mustGet(t, r, numbered(i), fmt.Sprint(i), "5.2: a page that is not on the way")
					mustRange(t, r, numbered(i), "", 1, fmt.Sprint(numbered(i), "=", i), "5.2: a page that is not on the way")
				}
			}
			if slices.Contains(way, id) {
				mustTell(t, x.Put([]byte(numbered(i)), nil), api.ErrCorrupt, "5.2: Put")
				if gone, e := x.Delete([]byte(numbered(i))); gone || e != api.ErrCorrupt {
					t.Fatalf("5.2: Delete: %v, %d", gone, e)
				}
			}
		}
		if id != 99 {
			mustNotRange(t, x, nil, nil, 99, api.ErrCorrupt, "5.2: a page on the way does not read")
			mustNotRange(t, s, nil, nil, 99, api.ErrCorrupt, "5.2: a page on the way does not read")
		}
		mustRange(t, x, "0001", "0001", 9, "", "5.2: nothing is on the way to nothing")
		mustRange(t, x, "", "", 0, "", "5.2: nothing is on the way to nothing")
		mustHaveTold(t, x, was, "rule 4: behind ErrCorrupt")
		d.Flip(id, 77)
		mustBe(t, x, all, "5.2: turned back")
		mustTell(t, x.Check(), api.OK, "5.5: Check, turned back")
	}
}

// TestTheOrderOfRefusals: what the arguments are comes ahead of what the pages are, and that ahead of what room there is.
func TestTheOrderOfRefusals(t *testing.T) {
	whole, on := grown(t, 60, 20)
	x, d := packed(t, whole, on, 0)
	root, long := x.now.root, make([]byte, 65)
	mustTell(t, x.Put([]byte("k"), nil), api.ErrFull, "5.2: Put without room")
	d.Flip(root, 99)
	mustTell(t, x.Put([]byte("k"), nil), api.ErrCorrupt, "5.2: ErrCorrupt ahead of ErrFull")
	if _, e := x.Delete([]byte("0003")); e != api.ErrCorrupt {
		t.Errorf("5.2: Delete: %d, not ErrCorrupt ahead of ErrFull", e)
	}
	mustTell(t, x.Put(nil, nil), api.ErrArg, "5.2: ErrArg ahead of ErrCorrupt")
	mustTell(t, x.Put(long, nil), api.ErrLong, "5.2: ErrLong ahead of ErrCorrupt")
	mustTell(t, x.Put([]byte("k"), make([]byte, 1801)), api.ErrLong, "5.2: ErrLong ahead of ErrCorrupt")
	mustNotGet(t, x, nil, api.ErrArg, "5.2: ErrArg ahead of ErrCorrupt")
	mustNotGet(t, x, long, api.ErrLong, "5.2: ErrLong ahead of ErrCorrupt")
	mustNotRange(t, x, long, nil, -1, api.ErrArg, "5.2: ErrArg ahead of ErrCorrupt")
	mustNotRange(t, x, long, nil, 1, api.ErrLong, "5.2: ErrLong ahead of ErrCorrupt")
	if _, e := x.Delete(nil); e != api.ErrArg {
		t.Errorf("5.2: Delete: %d, not ErrArg ahead of ErrCorrupt", e)
	}
	if _, e := x.Delete(long); e != api.ErrLong {
		t.Errorf("5.2: Delete: %d, not ErrLong ahead of ErrCorrupt", e)
	}
	mustTell(t, x.Rollback(), api.OK, "5.3: Rollback reads no page")
}

// TestATurnedHeadOfACommitOfNothing: the head ahead of it has the same root, but another number.
func TestATurnedHeadOfACommitOfNothing(t *testing.T) {
	x, d := grown(t, 60, 5)
	mustCommit(t, x)
	number := x.Number()
	d.Flip(number%2, 90)
	mustPut(t, x, "a", "1")
	mustTell(t, x.Rollback(), api.OK, "5.3: Rollback with a turned head")
	if x.Number() != number {
		t.Fatalf("5.3: Number %d behind Rollback, not %d", x.Number(), number)
	}
	mustCommit(t, x)
	if x.Number() != number+1 {
		t.Fatalf("5.3: Number %d behind a Commit, not %d", x.Number(), number+1)
	}
}

// TestATurnedHead: a tree that is open does not lean on the heads. (Bit 120 is one of the root's: the block is still a head then.)
func TestATurnedHead(t *testing.T) {
	for i, blocks := range [][]int{{0}, {1}, {0, 1}, {0, 1}} {
		x, d := grown(t, 100, 20)
		s := mustSnap(t, x)
		mustPut(t, x, "a", "1")
		mustCommit(t, x)
		all, then, was := spelledAll(t, x), spelledAll(t, s), allTold(x)
		for _, at := range blocks {
			d.Flip(at, []int{90, 90, 90, 120}[i])
		}
		mustPut(t, x, "b", "2")
		mustDelete(t, x, numbered(3), true)
		mustTell(t, x.Rollback(), api.OK, "5.3: Rollback with a turned head")
		mustBe(t, x, all, "5.3: Rollback with a turned head")
		if now := allTold(x); now.left > was.left || now.number != was.number || now.pages != was.pages {
			t.Fatalf("5.3: Rollback with a turned head: it tells %v, told %v", now, was)
		}
		for i := range 5 {
			mustPut(t, x, fmt.Sprint("c", i), "2")
		}
		mustBe(t, s, then, "5.4: a Snap with a turned head")
		s.Close()
		mustCommit(t, x)
		if x.Number() != was.number+1 {
			t.Fatalf("5.3: Number %d behind a Commit, not %d", x.Number(), was.number+1)
		}
		mustHaveRoom(t, x, d, "with a turned head, behind Close and Commit")
		mustTell(t, x.Check(), api.OK, "5.5: Check with a turned head")
		mustCommit(t, x)
		mustBe(t, mustOpen(t, d), all+" c0=2 c1=2 c2=2 c3=2 c4=2", "5.3: both heads written anew")
	}
}
