package tree

import (
	"fmt"
	"math/rand"
	"testing"

	"headland/api"
	"headland/disk"
)

// orders are ways to go through numbers below n.
func orders(n int) map[string][]int {
	up, down := make([]int, n), make([]int, n)
	outward := make([]int, n)
	for i := range n {
		up[i], down[n-1-i] = i, i
		if i%2 == 0 {
			outward[i] = i / 2
		} else {
			outward[i] = n - 1 - i/2
		}
	}
	return map[string][]int{"up": up, "down": down, "outward": outward, "mixed": rand.New(rand.NewSource(7)).Perm(n)}
}

// TestGrownAndEmptied: in several orders, each step looked at.
func TestGrownAndEmptied(t *testing.T) {
	const keys = 90
	for in, puts := range orders(keys) {
		for out, deletes := range orders(keys) {
			x, d := newTree(t, 200)
			for n, i := range puts {
				mustPut(t, x, numbered(i), in)
				mustCommit(t, x)
				mustBeGrown(t, x, d, n+1)
			}
			if x.Depth() < 3 {
				t.Fatalf("5.5: %d keys, %d deep", keys, x.Depth())
			}
			for n, i := range deletes {
				mustDelete(t, x, numbered(i), true)
				mustCommit(t, x)
				mustBeGrown(t, x, d, keys-n-1)
				if n%16 == 0 {
					mustNotGet(t, x, []byte(numbered(i)), api.OK, "5.2: deleted "+out)
				}
			}
			mustHaveTold(t, x, told{number: 2 * keys, left: 198}, "5.5: emptied")
		}
	}
}

func mustBeGrown(t *testing.T, x *Tree, d *disk.Disk, keys int) {
	t.Helper()
	if x.Len() != keys {
		t.Fatalf("5.2: Len %d, not %d", x.Len(), keys)
	}
	mustHaveRoom(t, x, d, "behind a Commit")
	if keys%5 == 0 || keys < 20 {
		mustBeWellShaped(t, x, d)
	}
}

// TestTheFirstLevels: where a tree begins to have a level more.
func TestTheFirstLevels(t *testing.T) {
	x, d := newTree(t, 60)
	for keys := 1; keys <= 5; keys++ {
		mustPut(t, x, numbered(keys), "")
		depth, pages := 1, 1
		if keys == 5 {
			depth, pages = 2, 3
		}
		if x.Depth() != depth || x.Pages() != pages {
			t.Errorf("5.5: %d keys: %d deep, %d pages", keys, x.Depth(), x.Pages())
		}
		mustBeWellShaped(t, x, d)
	}
}

// taken is how many pages a change takes, of a tree of so many keys: those that it has less behind it.
func taken(t *testing.T, keys int, change func(*Tree) api.Errno) int {
	t.Helper()
	x, _ := grown(t, 400, keys)
	was := x.Left()
	mustTell(t, change(x), api.OK, "5.2: a change with room")
	return was - x.Left()
}

func deleting(x *Tree, key string) api.Errno {
	was, e := x.Delete([]byte(key))
	if was != (e == api.OK) {
		return -1
	}
	return e
}

// TestJustEnoughRoom: with as many pages as a change takes it is made, with one less it is ErrFull, and nothing is changed.
func TestJustEnoughRoom(t *testing.T) {
	for _, keys := range []int{1, 2, 4, 5, 14, 17, 53} {
		for at := 0; at <= keys; at += 1 + keys/30 {
			changes := map[string]func(*Tree) api.Errno{
				"Put": func(x *Tree) api.Errno { return x.Put([]byte(numbered(at)+"x"), nil) },
			}
			if at < keys {
				changes["Put again"] = func(x *Tree) api.Errno { return x.Put([]byte(numbered(at)), nil) }
				changes["Delete"] = func(x *Tree) api.Errno { return deleting(x, numbered(at)) }
			}
			for what, change := range changes {
				want := taken(t, keys, change)
				whole, on := grown(t, 100, keys)
				if most := 2*whole.Depth() + 1; what != "Delete" && want > most {
					t.Fatalf("5.5: %s of %d of %d takes %d pages, more than %d", what, at, keys, want, most)
				}
				if most := 3*whole.Depth() + 1; want > most {
					t.Fatalf("5.5: %s of %d of %d takes %d pages, more than %d", what, at, keys, want, most)
				}
				if want > 0 {
					x, d := packed(t, whole, on, want-1)
					was, all, open := allTold(x), spelledAll(t, x), d.Open()
					for range 2 {
						mustTell(t, change(x), api.ErrFull, "5.2: "+what+" without room")
						mustHaveTold(t, x, was, "5.2: behind ErrFull")
						mustBe(t, x, all, "5.2: behind ErrFull")
					}
					if d.Open() != open {
						t.Fatal("5.2: a refused change writes")
					}
					mustBeWellShaped(t, x, d)
				}
				x, d := packed(t, whole, on, want)
				mustTell(t, change(x), api.OK, "5.5: "+what+" with just enough room")
				if x.Left() != 0 {
					t.Fatalf("5.5: %s left %d pages", what, x.Left())
				}
				mustCommit(t, x)
				mustHaveRoom(t, x, d, "behind a Commit")
				mustBeWellShaped(t, x, d)
			}
		}
	}
}

// TestAsMuchRoomAsIsPromised: on small disks, some changes a Commit.
func TestAsMuchRoomAsIsPromised(t *testing.T) {
	full := 0
	for seed := range int64(40) {
		r := rand.New(rand.NewSource(seed))
		x, d := newTree(t, 4+r.Intn(40))
		for range 300 {
			key := []byte(numbered(r.Intn(60)))
			was, left := allTold(x), x.Left()
			want := 2*x.Depth() + 1
			var e api.Errno
			switch n := r.Intn(20); {
			case n < 10:
				e = x.Put(key, nil)
			case n < 15:
				want = 3*x.Depth() + 1
				_, e = x.Delete(key)
			case n < 16:
				e = x.Rollback()
			default:
				e = x.Commit()
				mustHaveRoom(t, x, d, "behind a Commit")
			}
			if e == api.ErrFull && left < want {
				full++
				mustHaveTold(t, x, was, "5.2: behind ErrFull")
			} else if e != api.OK {
				t.Fatalf("5.5: %d with %d pages left, of which %d are enough", e, left, want)
			}
		}
		mustBeWellShaped(t, x, d)
	}
	if full == 0 {
		t.Error("no disk was ever full")
	}
}

// TestSnapsTakeRoom: what a Snap needs is not free before its Close.
func TestSnapsTakeRoom(t *testing.T) {
	x, d := grown(t, 100, 20)
	s := mustSnap(t, x)
	own := x.Pages()
	for i := range 20 {
		mustDelete(t, x, numbered(i), true)
		mustCommit(t, x)
	}
	if x.Left() != 98-own {
		t.Errorf("5.4: %d left beside a Snap of %d pages", x.Left(), own)
	}
	for i := range 30 {
		mustPut(t, x, fmt.Sprint("k", i), "")
		mustCommit(t, x)
		if x.Left() != 98-own-x.Pages() {
			t.Fatalf("5.4: %d left beside a Snap of %d pages and a tree of %d", x.Left(), own, x.Pages())
		}
	}
	s.Close()
	mustCommit(t, x)
	mustHaveRoom(t, x, d, "behind Close and Commit")
}

func TestTheGreatestDisk(t *testing.T) {
	x, d := newTree(t, api.MaxBlocks)
	for i := range 2000 {
		mustPut(t, x, numbered(i*7%2000), "v")
		mustCommit(t, x)
	}
	mustBeWellShaped(t, x, d)
	mustHaveRoom(t, x, d, "the greatest disk")
	x = mustOpen(t, d)
	if x.Len() != 2000 {
		t.Errorf("5.1: %d keys, opened anew", x.Len())
	}
	mustHaveRoom(t, x, d, "the greatest disk, opened anew")
	for range 300 {
		mustPut(t, x, numbered(77), "w")
	}
	mustTell(t, x.Rollback(), api.OK, "5.3: Rollback")
	mustHaveRoom(t, x, d, "the greatest disk, rolled back")
}
