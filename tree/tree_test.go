package tree

import (
	"bytes"
	"fmt"
	"math"
	"strings"
	"testing"

	"headland/api"
	"headland/disk"
)

func TestExample(t *testing.T) {
	x, d := newTree(t, 20)
	mustPut(t, x, "a", "1")
	mustCommit(t, x)
	mustPut(t, x, "b", "2")
	s := mustSnap(t, x)
	mustRange(t, s, "", "", 9, "a=1", "5.4: Snap")
	mustRange(t, x, "", "", 9, "a=1 b=2", "5.2: Range")
	mustTell(t, x.Rollback(), api.OK, "5.3: Rollback")
	if x.Len() != 1 {
		t.Errorf("5.3: Len behind Rollback: %d", x.Len())
	}
	mustDelete(t, x, "a", true)
	if x.Len() != 0 || x.Depth() != 0 {
		t.Errorf("5.5: Len %d, Depth %d, not 0", x.Len(), x.Depth())
	}
	mustBeWellShaped(t, x, d)
}

func TestAnEmptyTree(t *testing.T) {
	x, d := newTree(t, 9)
	for range 2 {
		mustHaveTold(t, x, told{left: 7}, "5.1: an empty tree")
		mustBe(t, x, "", "5.1: an empty tree")
		mustNotGet(t, x, []byte("a"), api.OK, "5.1: an empty tree")
		mustDelete(t, x, "a", false)
		mustTell(t, x.Rollback(), api.OK, "5.3: Rollback of an empty tree")
		mustTell(t, x.Check(), api.OK, "5.5: Check of an empty tree")
		if x.Dead() || d.Open() != 0 {
			t.Error("5.1: an empty tree is dead, or writes")
		}
		x = mustOpen(t, d)
	}
	s := mustSnap(t, x)
	mustPut(t, x, "a", "1")
	mustCommit(t, x)
	mustBe(t, s, "", "5.4: a Snap of an empty tree")
	mustNotGet(t, s, []byte("a"), api.OK, "5.4: a Snap of an empty tree")
}

func TestOneKeyOnTheSmallestDisk(t *testing.T) {
	x, d := newTree(t, 3)
	mustPut(t, x, "a", "1")
	mustHaveTold(t, x, told{keys: 1, depth: 1, pages: 1}, "5.5: the root alone")
	mustCommit(t, x)
	mustHaveTold(t, x, told{keys: 1, number: 1, depth: 1, pages: 1}, "5.5: the root alone")
	mustTell(t, x.Put([]byte("a"), []byte("2")), api.ErrFull, "5.2: Put without a free page")
	mustTell(t, x.Put([]byte("b"), nil), api.ErrFull, "5.2: Put without a free page")
	mustBe(t, x, "a=1", "5.2: behind ErrFull")
	x = mustOpen(t, d)
	mustHaveTold(t, x, told{keys: 1, number: 1, depth: 1, pages: 1}, "5.1: opened anew")
	mustDelete(t, x, "a", true)
	mustHaveTold(t, x, told{number: 1}, "5.5: not free before the Commit")
	mustCommit(t, x)
	mustHaveTold(t, x, told{number: 2, left: 1}, "5.5: free behind it")
}

// TestKeysAndValues: their lengths, and the order of keys.
func TestKeysAndValues(t *testing.T) {
	x, d := newTree(t, 200)
	long := strings.Repeat("k", 64)
	keys := []string{"\x00", "\x00\x00", "\x00\xff", "a", "a\x00", "aa", "b", long[:63], long, "\xff", "\xff\x00", "\xff" + long[1:]}
	values := []string{"", "v", strings.Repeat("v", 1799), strings.Repeat("w", 1800)}
	for turn := range values {
		for i := range keys {
			at := (i*5 + turn) % len(keys)
			mustPut(t, x, keys[at], values[(at+turn)%len(values)])
		}
		mustCommit(t, x)
		mustBeWellShaped(t, x, d)
		if turn%2 == 1 {
			x = mustOpen(t, d)
		}
		l, e := x.Range(nil, nil, 99)
		if len(l) != len(keys) || e != api.OK || x.Len() != len(keys) {
			t.Fatalf("5.2: Range: %d pairs of %d keys, %d", len(l), x.Len(), e)
		}
		for i, p := range l {
			if string(p.Key) != keys[i] || string(p.Value) != values[(i+turn)%len(values)] || p.Space != 0 {
				t.Errorf("5.2: pair %d: %q with %d bytes", i, p.Key, len(p.Value))
			}
			mustGet(t, x, keys[i], values[(i+turn)%len(values)], "5.2")
		}
	}
	mustNotGet(t, x, []byte("\x00\x00\x00"), api.OK, "5.2: a key that is not there")
	mustNotGet(t, x, []byte(long[:62]), api.OK, "5.2: a key that begins another one")
	mustDelete(t, x, "a", true)
	mustDelete(t, x, "a", false)
	mustGet(t, x, "a\x00", values[3], "5.2: a key that was begun by a deleted one")
}

func TestRefusedKeysAndValues(t *testing.T) {
	x, _ := grown(t, 100, 20)
	s := mustSnap(t, x)
	was, all := allTold(x), spelledAll(t, x)
	long, value := bytes.Repeat([]byte("k"), 65), make([]byte, 1801)
	for _, key := range [][]byte{nil, {}} {
		mustTell(t, x.Put(key, nil), api.ErrArg, "5.2: Put of an empty key")
		mustTell(t, x.Put(key, value), api.ErrArg, "5.2: ErrArg ahead of ErrLong")
		mustNotGet(t, x, key, api.ErrArg, "5.2: an empty key")
		mustNotGet(t, s, key, api.ErrArg, "5.4: an empty key")
		if gone, e := x.Delete(key); gone || e != api.ErrArg {
			t.Errorf("5.2: Delete of an empty key: %v, %d", gone, e)
		}
	}
	for _, key := range [][]byte{long, make([]byte, 9999)} {
		mustTell(t, x.Put(key, nil), api.ErrLong, "5.2: Put of a long key")
		mustNotGet(t, x, key, api.ErrLong, "5.2: a long key")
		mustNotGet(t, s, key, api.ErrLong, "5.4: a long key")
		if gone, e := x.Delete(key); gone || e != api.ErrLong {
			t.Errorf("5.2: Delete of a long key: %v, %d", gone, e)
		}
	}
	mustTell(t, x.Put([]byte("k"), value), api.ErrLong, "5.2: Put of a long value")
	mustTell(t, x.Put([]byte(numbered(3)), value), api.ErrLong, "5.2: Put of a long value")
	for _, r := range []reader{x, s} {
		for _, most := range []int{-1, math.MinInt} {
			mustNotRange(t, r, nil, nil, most, api.ErrArg, "5.2: most below 0")
			mustNotRange(t, r, long, long, most, api.ErrArg, "5.2: ErrArg ahead of ErrLong")
		}
		for _, most := range []int{0, 1, 99} {
			mustNotRange(t, r, long, nil, most, api.ErrLong, "5.2: a long lo")
			mustNotRange(t, r, nil, long, most, api.ErrLong, "5.2: a long hi")
			mustNotRange(t, r, long, []byte("a"), most, api.ErrLong, "5.2: a long lo")
		}
		mustRange(t, r, string(long[:64]), "", 9, "", "5.2: a lo of 64 bytes")
		mustRange(t, r, "", string(long[:64]), 1, "0000=0", "5.2: a hi of 64 bytes")
	}
	mustHaveTold(t, x, was, "rule 4: behind refusals")
	mustBe(t, x, all, "rule 4: behind refusals")
}

func spelledAll(t *testing.T, r reader) string {
	t.Helper()
	l, e := r.Range(nil, nil, plenty)
	mustTell(t, e, api.OK, "5.2: Range")
	return spelled(l)
}

// TestRange holds all bounds against a list.
func TestRange(t *testing.T) {
	for _, keys := range []int{0, 1, 3, 4, 5, 40} {
		x, _ := newTree(t, 300)
		bounds := []string{"", "00", "0000\x00", "zz"}
		for i := range keys {
			mustPut(t, x, numbered(2*i), fmt.Sprint(i))
			bounds = append(bounds, numbered(2*i))
		}
		bounds = append(bounds, numbered(1), numbered(keys|1), numbered(2*keys+1))
		mustCommit(t, x)
		s := mustSnap(t, x)
		for _, lo := range bounds {
			for _, hi := range bounds {
				var want []string
				for i := range keys {
					if k := numbered(2 * i); k >= lo && (hi == "" || k < hi) {
						want = append(want, fmt.Sprint(k, "=", i))
					}
				}
				for _, most := range []int{0, 1, 2, 7, len(want) - 1, len(want), len(want) + 1, math.MaxInt} {
					if most < 0 {
						continue
					}
					first := strings.Join(want[:min(most, len(want))], " ")
					mustRange(t, x, lo, hi, most, first, "5.2")
					if most == 2 {
						mustRange(t, s, lo, hi, most, first, "5.4")
					}
				}
			}
		}
	}
}

func TestPutOfAKeyThatIsThere(t *testing.T) {
	x, d := grown(t, 300, 60)
	pages, depth := x.Pages(), x.Depth()
	for i := range 60 {
		mustPut(t, x, numbered(i), "new")
		mustGet(t, x, numbered(i), "new", "5.2")
		if x.Len() != 60 || x.Pages() != pages || x.Depth() != depth {
			t.Fatalf("5.2: %d keys, %d pages, %d deep behind a Put of a key that is there", x.Len(), x.Pages(), x.Depth())
		}
		mustCommit(t, x)
	}
	mustBeWellShaped(t, x, d)
}

func TestDeleteOfAKeyThatIsNot(t *testing.T) {
	x, d := grown(t, 200, 40)
	was := allTold(x)
	for _, key := range []string{"\x00", "0", "0000\x00", "0020a", "00", "zzz", numbered(40)} {
		mustDelete(t, x, key, false)
		mustHaveTold(t, x, was, "5.2: Delete of a key that is not there")
	}
	if d.Open() != 0 {
		t.Error("5.2: Delete of a key that is not there writes")
	}
	x, _ = packed(t, x, d, 0)
	mustDelete(t, x, "no", false)
}

func TestMemory(t *testing.T) {
	x, _ := newTree(t, 100)
	var keys, values [][]byte
	var rooms, copies [][]byte
	for i := range 12 {
		key, all := spacious(numbered(i))
		value, whole := spacious(strings.Repeat("v", i))
		keys, values = append(keys, key), append(values, value)
		rooms = append(rooms, all, whole)
		copies = append(copies, bytes.Clone(all), bytes.Clone(whole))
	}
	mustStay := func(why string) {
		t.Helper()
		for i, r := range rooms {
			if !bytes.Equal(r, copies[i]) {
				t.Fatalf("rule 2: %s changed what was handed in", why)
			}
		}
	}
	for i := range keys {
		mustTell(t, x.Put(keys[i], values[i]), api.OK, "5.2: Put")
	}
	mustStay("Put")
	x.Get(keys[5])
	x.Range(keys[2], keys[9], 5)
	mustStay("Get or Range")
	x.Delete(keys[11])
	mustStay("Delete")
	mustCommit(t, x)
	s := mustSnap(t, x)
	s.Get(keys[5])
	s.Range(keys[2], keys[9], 5)
	mustStay("a Snap's Get or Range")
	all := spelledAll(t, x)
	for _, r := range rooms {
		for i := range r {
			r[i] = 'x'
		}
	}
	mustBe(t, x, all, "rule 2: what is handed in is not kept")
	for _, r := range []reader{x, s} {
		mustAnswerNewMemory(t, r, all)
	}
}

// mustAnswerNewMemory writes over an answer and its spare room.
func mustAnswerNewMemory(t *testing.T, r reader, all string) {
	t.Helper()
	v, _, _ := r.Get([]byte(numbered(7)))
	scribble(v)
	l, _ := r.Range(nil, nil, 99)
	for i, p := range l {
		scribble(p.Key[len(p.Key):])
		scribble(p.Value[len(p.Value):])
		if got := spelled(l); got != all {
			t.Fatalf("rule 2: the room of pair %d is another one's: %s", i, got)
		}
	}
	for i, p := range l {
		key := string(p.Key)
		scribble(p.Value)
		if string(p.Key) != key {
			t.Fatalf("rule 2: pair %d's key and value share memory", i)
		}
		scribble(p.Key)
		if rest := spelled(l[i+1:]); !strings.HasSuffix(all, rest) {
			t.Fatalf("rule 2: pair %d shares memory with another one", i)
		}
	}
	l = l[:cap(l)]
	clear(l)
	mustBe(t, r, all, "rule 2: an answer is new memory")
	mustGet(t, r, numbered(7), "vvvvvvv", "rule 2: an answer is new memory")
}

func scribble(b []byte) {
	b = b[:cap(b)]
	for i := range b {
		b[i] = '!'
	}
}

func TestCommit(t *testing.T) {
	x, d := newTree(t, 60)
	for n := 1; n <= 4; n++ {
		mustCommit(t, x)
		if x.Number() != n {
			t.Fatalf("5.3: Number %d behind %d Commits of nothing", x.Number(), n)
		}
	}
	mustPut(t, x, "a", "1")
	if x.Number() != 4 {
		t.Error("5.3: a Put turned the Number")
	}
	d.Arm(disk.Loss{After: 4, Torn: -1})
	mustCommit(t, x)
	mustTell(t, d.Flush(), api.ErrDown, "5.3: Commit is one page.Commit: three calls of the disk")
	d.Restart()
	x = mustOpen(t, d)
	mustBe(t, x, "a=1", "5.3: what was changed is kept for good")
	if x.Number() != 5 {
		t.Errorf("5.3: Number %d opened anew, not 5", x.Number())
	}
	mustPut(t, x, "b", "2")
	mustBe(t, mustOpen(t, d), "a=1", "5.3: what was not committed")
	mustCommit(t, x)
	mustCommit(t, x)
	mustBe(t, mustOpen(t, d), "a=1 b=2", "5.3: a Commit of nothing changes nothing")
}

func TestRollback(t *testing.T) {
	x, d := grown(t, 300, 50)
	was, all := allTold(x), spelledAll(t, x)
	rollback := func(why string) {
		t.Helper()
		mustTell(t, x.Rollback(), api.OK, "5.3: Rollback "+why)
		mustHaveTold(t, x, was, "5.3: Rollback "+why)
		mustBe(t, x, all, "5.3: Rollback "+why)
		mustBeWellShaped(t, x, d)
	}
	rollback("of nothing")
	mustPut(t, x, numbered(7), "new")
	mustPut(t, x, "new", "new")
	rollback("of puts")
	for i := range 50 {
		mustDelete(t, x, numbered(i), true)
	}
	if x.Len() != 0 || x.Depth() != 0 || x.Pages() != 0 {
		t.Errorf("5.5: %d keys, %d deep, %d pages", x.Len(), x.Depth(), x.Pages())
	}
	rollback("of deletes")
	rollback("once more")
	x = mustOpen(t, d)
	mustPut(t, x, "new", "new")
	rollback("behind Open")
	mustPut(t, x, "z", "z")
	mustCommit(t, x)
	mustDelete(t, x, "z", true)
	mustTell(t, x.Rollback(), api.OK, "5.3: Rollback")
	mustBe(t, x, all+" z=z", "5.3: Rollback goes back to the last Commit")
	mustCommit(t, x)
	mustHaveRoom(t, x, d, "behind Rollback and Commit")
	mustBe(t, mustOpen(t, d), all+" z=z", "5.3: opened anew")
}

// TestRollbackAgainAndAgain: what is rolled back takes no room.
func TestRollbackAgainAndAgain(t *testing.T) {
	x, d := grown(t, 40, 10)
	s := mustSnap(t, x)
	mustPut(t, x, "a", "1")
	mustCommit(t, x)
	all := spelledAll(t, x)
	for i := range 200 {
		mustPut(t, x, "b", "1")
		mustPut(t, x, "c", "1")
		if i%3 == 0 {
			mustDelete(t, x, numbered(4), true)
		}
		mustTell(t, x.Rollback(), api.OK, "5.3: Rollback")
		mustBe(t, x, all, "5.3: Rollback")
	}
	mustNotGet(t, s, []byte("a"), api.OK, "5.4: a Snap behind Rollbacks")
	if len(spelledAll(t, s)) == 0 {
		t.Error("5.4: a Snap behind Rollbacks has nothing")
	}
	s.Close()
	mustCommit(t, x)
	mustHaveRoom(t, x, d, "behind Rollbacks")
}

// TestSnaps: four of four Commits, read behind later ones.
func TestSnaps(t *testing.T) {
	x, d := grown(t, 400, 40)
	var snaps []*Snap
	var then []string
	for i := range 4 {
		mustPut(t, x, fmt.Sprint("not committed ", i), "")
		snaps, then = append(snaps, mustSnap(t, x)), append(then, "")
		mustTell(t, x.Rollback(), api.OK, "5.3: Rollback")
		then[i] = spelledAll(t, x)
		mustPut(t, x, fmt.Sprint("k", i), fmt.Sprint(i))
		mustPut(t, x, numbered(i), "new")
		mustDelete(t, x, numbered(10+i), true)
		mustCommit(t, x)
	}
	mustAllBe := func(why string, from int) {
		t.Helper()
		for i := from; i < 4; i++ {
			mustBe(t, snaps[i], then[i], why)
			for k := range 4 {
				want, key := fmt.Sprint(k), numbered(k)
				if k < i {
					want = "new"
				}
				mustGet(t, snaps[i], key, want, why)
			}
		}
	}
	mustAllBe("5.4: four Snaps", 0)
	for range 2 {
		if s, e := x.Snap(); s != nil || e != api.ErrMany {
			t.Fatalf("5.4: a fifth Snap: %v, %d", s, e)
		}
	}
	for i := range 40 {
		x.Delete([]byte(numbered(i)))
	}
	mustAllBe("5.4: Snaps behind deletes", 0)
	mustCommit(t, x)
	for i := range 60 {
		mustPut(t, x, numbered(100+i), "later")
		mustCommit(t, x)
	}
	mustAllBe("5.4: Snaps behind deletes, puts and Commits", 0)
	for i, s := range snaps {
		for range 2 {
			s.Close()
			mustNotGet(t, s, []byte(numbered(1)), api.ErrDown, "5.4: closed")
			mustNotGet(t, s, nil, api.ErrDown, "5.4: ErrDown ahead of ErrArg")
			mustNotRange(t, s, nil, nil, 9, api.ErrDown, "5.4: closed")
			mustNotRange(t, s, nil, nil, -1, api.ErrDown, "5.4: ErrDown ahead of ErrArg")
		}
		mustAllBe("5.4: a Snap beside closed ones", i+1)
		mustBeWellShaped(t, x, d)
	}
	mustCommit(t, x)
	mustHaveRoom(t, x, d, "behind Close and Commit")
	for range 4 {
		mustSnap(t, x)
	}
	if s, e := x.Snap(); s != nil || e != api.ErrMany {
		t.Fatalf("5.4: a fifth Snap: %v, %d", s, e)
	}
}

// TestClosingTwiceClosesOneAlone: a place that was closed twice is one place.
func TestClosingTwiceClosesOneAlone(t *testing.T) {
	x, _ := grown(t, 60, 9)
	first := mustSnap(t, x)
	others := []*Snap{mustSnap(t, x), mustSnap(t, x), mustSnap(t, x)}
	first.Close()
	first.Close()
	mustSnap(t, x)
	if s, e := x.Snap(); s != nil || e != api.ErrMany {
		t.Errorf("5.4: a fifth Snap: %v, %d", s, e)
	}
	for _, s := range others {
		mustGet(t, s, numbered(3), "3", "5.4: a Snap beside a closed one")
	}
}

// TestASnapOfPagesThatWereLeft: what the tree has left since its Commit is still a Snap's.
func TestASnapOfPagesThatWereLeft(t *testing.T) {
	x, d := grown(t, 100, 20)
	then := spelledAll(t, x)
	for i := range 20 {
		mustDelete(t, x, numbered(i), true)
	}
	s := mustSnap(t, x)
	mustCommit(t, x)
	for i := range 20 {
		mustPut(t, x, fmt.Sprint("k", i), "")
		mustCommit(t, x)
		mustBe(t, s, then, "5.4: a Snap of what the tree has left")
	}
	s.Close()
	mustHaveRoom(t, x, d, "behind Close")
}

// TestCloseBesideChanges: what is changed but not committed stays, and what the last Commit needs.
func TestCloseBesideChanges(t *testing.T) {
	x, d := grown(t, 100, 20)
	s := mustSnap(t, x)
	mustPut(t, x, numbered(4), "new")
	mustCommit(t, x)
	committed := spelledAll(t, x)
	mustPut(t, x, numbered(5), "new")
	mustDelete(t, x, numbered(9), true)
	changed := spelledAll(t, x)
	s.Close()
	for i := range 9 {
		mustPut(t, x, numbered(30+i), "")
		mustDelete(t, x, numbered(30+i), true)
	}
	mustBe(t, x, changed, "5.4: Close beside changes")
	mustBe(t, mustOpen(t, d), committed, "5.4: Close beside changes, opened anew")
	mustTell(t, x.Rollback(), api.OK, "5.3: Rollback")
	mustBe(t, x, committed, "5.3: Rollback behind Close")
	mustHaveRoom(t, x, d, "behind Close and Rollback")
}
