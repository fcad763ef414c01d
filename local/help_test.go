package local

import (
	"bytes"
	"fmt"
	"strings"
	"testing"

	"headland/api"
	"headland/disk"
)

const (
	keepAll = 1<<64 - 1
	plenty  = 1 << 40
)

func newDisk(t *testing.T, blocks int) *disk.Disk {
	t.Helper()
	d, e := disk.New(blocks)
	if e != api.OK {
		t.Fatalf("3.1: New(%d): %d", blocks, e)
	}
	return d
}

func mustOpen(t *testing.T, d *disk.Disk) *Store {
	t.Helper()
	s, e := Open(d)
	if s == nil || e != api.OK {
		t.Fatalf("6.1: Open: %v, %d", s, e)
	}
	return s
}

func newStore(t *testing.T, blocks int) (*Store, *disk.Disk) {
	t.Helper()
	d := newDisk(t, blocks)
	return mustOpen(t, d), d
}

func mustTell(t *testing.T, got, want api.Errno, why string) {
	t.Helper()
	if got != want {
		t.Fatalf("%s: %d, not %d", why, got, want)
	}
}

func pair(space int, key, value string) api.Pair {
	return api.Pair{Space: space, Key: []byte(key), Value: []byte(value)}
}

func laid(space int, key, value string) api.Change {
	return api.Change{Pair: pair(space, key, value)}
}

func gone(space int, key string) api.Change {
	return api.Change{Pair: pair(space, key, ""), Gone: true}
}

func mustApply(t *testing.T, s *Store, pos int, l ...api.Change) {
	t.Helper()
	mustTell(t, s.Apply(pos, l), api.OK, "6.3: Apply")
}

func mustImport(t *testing.T, s *Store, pos int, l ...api.Pair) {
	t.Helper()
	mustTell(t, s.Import(l, pos), api.OK, "6.4: Import")
}

func mustGet(t *testing.T, s *Store, space int, key, want, why string) {
	t.Helper()
	if v, is, e := s.Get(space, []byte(key)); string(v) != want || !is || e != api.OK {
		t.Fatalf("%s: Get of %d %q: %d bytes, %v, %d; not %d bytes", why, space, key, len(v), is, e, len(want))
	}
}

// mustNotGet says that there is no such key (api.OK), or by what Get is refused.
func mustNotGet(t *testing.T, s *Store, space int, key []byte, want api.Errno, why string) {
	t.Helper()
	if v, is, e := s.Get(space, key); len(v) != 0 || is || e != want {
		t.Fatalf("%s: Get of %d %q: %q, %v, %d; not %d", why, space, key, v, is, e, want)
	}
}

func mustRange(t *testing.T, s *Store, space int, lo, hi string, most int, want, why string) {
	t.Helper()
	l, e := s.Range(space, []byte(lo), []byte(hi), most)
	if got := spelled(l); got != want || e != api.OK {
		t.Fatalf("%s: Range of %d, %q, %q, %d: %s, %d; not %s", why, space, lo, hi, most, got, e, want)
	}
}

func mustNotRange(t *testing.T, s *Store, space int, lo, hi []byte, most int, want api.Errno, why string) {
	t.Helper()
	if l, e := s.Range(space, lo, hi, most); len(l) != 0 || e != want {
		t.Fatalf("%s: Range of %d, %q, %q, %d: %d pairs, %d; not %d", why, space, lo, hi, most, len(l), e, want)
	}
}

func spelled(l []api.Pair) string {
	s := make([]string, len(l))
	for i, p := range l {
		s[i] = fmt.Sprintf("%d %s=%s", p.Space, p.Key, p.Value)
	}
	return strings.Join(s, ", ")
}

// whole is all pairs of a store, and its position.
func whole(t *testing.T, s *Store) string {
	t.Helper()
	l, pos, e := s.Export()
	mustTell(t, e, api.OK, "6.4: Export")
	return fmt.Sprintf("%s at %d", spelled(l), pos)
}

// mustBe says what a store has, by each of its calls.
func mustBe(t *testing.T, s *Store, want, why string) {
	t.Helper()
	if got := whole(t, s); got != want {
		t.Fatalf("%s: %s; not %s", why, got, want)
	}
	var ranged []api.Pair
	for space := range api.MaxSpaces {
		l, e := s.Range(space, nil, nil, plenty)
		mustTell(t, e, api.OK, "6.2: Range")
		if s.Len(space) != len(l) {
			t.Fatalf("6.2: %s: Len of %d is %d, not %d", why, space, s.Len(space), len(l))
		}
		for _, p := range l {
			mustGet(t, s, space, string(p.Key), string(p.Value), "6.2: "+why)
		}
		ranged = append(ranged, l...)
	}
	if got := fmt.Sprintf("%s at %d", spelled(ranged), s.Pos()); got != want {
		t.Fatalf("6.2: %s: by Range and Pos %s; not %s", why, got, want)
	}
}

// told is all that a store, and its tree, tell without an Errno.
type told struct {
	pos                        int
	pairs                      [18]int // of the spaces from -1 on
	keys, number, pages, depth int
	left                       int
	dead                       bool
}

func allTold(s *Store) told {
	x := told{pos: s.Pos(), keys: s.Tree.Len(), number: s.Number(), pages: s.Pages(), depth: s.Depth(), left: s.Left(), dead: s.Dead()}
	for i := range x.pairs {
		x.pairs[i] = s.Len(i - 1)
	}
	return x
}

func mustHaveTold(t *testing.T, s *Store, want told, why string) {
	t.Helper()
	if got := allTold(s); got != want {
		t.Fatalf("%s: it tells %+v, not %+v", why, got, want)
	}
}

// filled is pairs of several spaces, in the order of a mixed row of numbers.
func filled(count int) []api.Pair {
	l := make([]api.Pair, count)
	for i := range l {
		n := i * 7919 % max(count, 1)
		l[i] = pair(n%5*3, fmt.Sprintf("k%04d", n), fmt.Sprint("v", n))
	}
	return l
}

// spacious is bytes with spare room, and all of the room.
func spacious(s string) (part, room []byte) {
	room = append([]byte(s), bytes.Repeat([]byte{0xee}, 40)...)
	return room[:len(s)], room
}
