package draft

import (
	"bytes"
	"fmt"
	"strings"
	"testing"

	"headland/api"
	"headland/disk"
	"headland/local"
)

const plenty = 1 << 40

func newStore(t *testing.T, l ...api.Pair) (*local.Store, *disk.Disk) {
	t.Helper()
	d, e := disk.New(400)
	mustTell(t, e, api.OK, "3.1: New")
	s, e := local.Open(d)
	mustTell(t, e, api.OK, "6.1: Open")
	mustTell(t, s.Import(l, 3), api.OK, "6.4: Import")
	return s, d
}

func mustDraft(t *testing.T, s *local.Store) *Draft {
	t.Helper()
	d, e := New(s)
	if d == nil || e != api.OK {
		t.Fatalf("13.1: New: %v, %d", d, e)
	}
	return d
}

// newDraft is a draft without changes, over a store that has some pairs.
func newDraft(t *testing.T, l ...api.Pair) (*Draft, *local.Store) {
	t.Helper()
	s, _ := newStore(t, l...)
	return mustDraft(t, s), s
}

func mustTell(t *testing.T, got, want api.Errno, why string) {
	t.Helper()
	if got != want {
		t.Fatalf("%s: %d, not %d", why, got, want)
	}
}

func pair(space int, key, value string) api.Pair {
	return api.Pair{Space: space, Key: []byte(key), Value: []byte(value)}
}

func laid(space int, key, value string) api.Change {
	return api.Change{Pair: pair(space, key, value)}
}

func gone(space int, key string) api.Change {
	return api.Change{Pair: pair(space, key, ""), Gone: true}
}

// mustMake makes changes by Put and Delete, one behind the other.
func mustMake(t *testing.T, d *Draft, l ...api.Change) {
	t.Helper()
	for _, c := range l {
		mark := d.Mark()
		mustTell(t, maker(d, c), api.OK, "13.1: Put, Delete")
		if d.Mark() != mark+1 {
			t.Fatalf("13.2: Mark is %d behind one change more than %d", d.Mark(), mark)
		}
	}
}

func maker(d *Draft, c api.Change) api.Errno {
	if c.Gone {
		return d.Delete(c.Space, c.Key)
	}
	return d.Put(c.Space, c.Key, c.Value)
}

// reader is what a draft and a store have in common.
type reader interface {
	Get(space int, key []byte) ([]byte, bool, api.Errno)
	Range(space int, lo, hi []byte, most int) ([]api.Pair, api.Errno)
}

func mustGet(t *testing.T, r reader, space int, key, want, why string) {
	t.Helper()
	if v, is, e := r.Get(space, []byte(key)); string(v) != want || !is || e != api.OK {
		t.Fatalf("%s: Get of %d %q: %d bytes, %v, %d; not %d bytes", why, space, key, len(v), is, e, len(want))
	}
}

// mustNotGet says that there is no such key (api.OK), or by what Get is refused.
func mustNotGet(t *testing.T, r reader, space int, key string, want api.Errno, why string) {
	t.Helper()
	if v, is, e := r.Get(space, []byte(key)); len(v) != 0 || is || e != want {
		t.Fatalf("%s: Get of %d %q: %q, %v, %d; not %d", why, space, key, v, is, e, want)
	}
}

func mustRange(t *testing.T, r reader, space int, lo, hi string, most int, want, why string) {
	t.Helper()
	l, e := r.Range(space, []byte(lo), []byte(hi), most)
	if got := spelled(l); got != want || e != api.OK {
		t.Fatalf("%s: Range of %d, %q, %q, %d: %s, %d; not %s", why, space, lo, hi, most, got, e, want)
	}
}

func mustNotRange(t *testing.T, r reader, space int, lo, hi string, most int, want api.Errno, why string) {
	t.Helper()
	if l, e := r.Range(space, []byte(lo), []byte(hi), most); len(l) != 0 || e != want {
		t.Fatalf("%s: Range of %d, %q, %q, %d: %d pairs, %d; not %d", why, space, lo, hi, most, len(l), e, want)
	}
}

func spelled(l []api.Pair) string {
	s := make([]string, len(l))
	for i, p := range l {
		s[i] = fmt.Sprintf("%d %s=%s", p.Space, p.Key, p.Value)
	}
	return strings.Join(s, ", ")
}

func spelledChanges(l []api.Change) string {
	s := make([]string, len(l))
	for i, c := range l {
		s[i] = spelled([]api.Pair{c.Pair})
		if c.Gone {
			s[i] = "no " + s[i]
		}
	}
	return strings.Join(s, ", ")
}

func mustChange(t *testing.T, d *Draft, want, why string) {
	t.Helper()
	if got := spelledChanges(d.Changes()); got != want {
		t.Fatalf("%s: Changes: %s; not %s", why, got, want)
	}
}

// whole is all that a draft or a store tells of its spaces, by Range, each pair of it by Get too.
func whole(t *testing.T, r reader) string {
	t.Helper()
	var all []api.Pair
	for space := range api.MaxSpaces {
		l, e := r.Range(space, nil, nil, plenty)
		mustTell(t, e, api.OK, "13.1: Range")
		for _, p := range l {
			mustGet(t, r, space, string(p.Key), string(p.Value), "13.1: what Range told")
		}
		all = append(all, l...)
	}
	return spelled(all)
}

func mustBe(t *testing.T, r reader, want, why string) {
	t.Helper()
	if got := whole(t, r); got != want {
		t.Fatalf("%s: %s; not %s", why, got, want)
	}
}

// spoil overwrites bytes, their spare room too.
func spoil(l ...[]byte) {
	for _, b := range l {
		b = b[:cap(b)]
		for i := range b {
			b[i] = '#'
		}
	}
}

// spacious is bytes with spare room, and all of the room.
func spacious(s string) (part, room []byte) {
	room = append([]byte(s), bytes.Repeat([]byte{0xee}, 40)...)
	return room[:len(s)], room
}
