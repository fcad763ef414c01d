package table

import (
	"fmt"
	"testing"

	"headland/api"
	"headland/disk"
	"headland/draft"
	"headland/local"
)

func exported(t *testing.T, s *local.Store) string {
	t.Helper()
	l, _, e := s.Export()
	mustTell(t, e, api.OK, "6.4: Export")
	return fmt.Sprint(l)
}

// filled is a draft, over a new store, with two tables that have rows, and one that has none.
func filled(t *testing.T) (*draft.Draft, *local.Store, *disk.Disk) {
	t.Helper()
	s, x := newStore(t)
	d := over(t, s)
	mustTell(t, Create(d, little()), api.OK, "15.1: Create")
	mustTell(t, Create(d, sharing()), api.OK, "15.1: Create")
	mustTell(t, Create(d, named("u")), api.OK, "15.1: Create")
	for i := range 12 {
		mustInsert(t, d, "t", values{num(i), word(string(rune('m' - i)))})
		mustInsert(t, d, "sharing", values{num(i), num(i), num(i % 3)})
	}
	return d, s, x
}

// TestAStoreThatHasTables: a draft over it tells what the draft told whose changes were applied, and goes on from there.
func TestAStoreThatHasTables(t *testing.T) {
	d, s, x := filled(t)
	told := whole(t, d)
	mustTell(t, s.Apply(1, d.Changes()), api.OK, "6.3: Apply")
	again := over(t, s)
	mustBeTold(t, again, told, "a draft over a store that has tables")
	anew, e := local.Open(x)
	mustTell(t, e, api.OK, "6.1: Open")
	again = over(t, anew)
	mustBeTold(t, again, told, "a draft over a store that was opened anew")
	had := exported(t, anew)
	mustNotCreate(t, again, named("sharing"), api.ErrTable, "of a name that the store has")
	mustNotInsert(t, again, "t", values{num(3), none()}, api.ErrKey, "of what the store has")
	mustNotInsert(t, again, "t", values{num(99), word("m")}, api.ErrUnique, "of what the store has")
	mustTell(t, Delete(again, "t", num(0)), api.OK, "15.2: Delete")
	mustTell(t, Update(again, "t", values{num(5), word("m")}), api.OK, "15.2: Update")
	mustInsert(t, again, "t", values{num(0), word("h")})
	mustInsert(t, again, "u", values{num(5), word("m")})
	mustTell(t, Update(again, "sharing", values{num(6), none(), num(2)}), api.OK, "15.2: Update")
	mustTell(t, Create(again, named("v")), api.OK, "15.1: Create")
	mustNotCreate(t, again, named("w"), api.ErrMany, "behind three that the store has, and one that it has not")
	mustScan(t, again, "t", 1, word("k"), none(), 4, `(2 "k") (1 "l") (5 "m")`)
	mustScan(t, again, "sharing", 2, none(), num(1), 4, "(0 0 0) (3 3 0) (9 9 0)")
	mustScan(t, again, "sharing", 2, num(2), none(), 3, "(2 2 2) (5 5 2) (6 - 2)")
	if exported(t, anew) != had {
		t.Error("13.1: a draft's tables turned the store")
	}
	told = whole(t, again)
	mustTell(t, anew.Apply(2, again.Changes()), api.OK, "6.3: Apply")
	mustBeTold(t, over(t, anew), told, "a draft over a store whose tables were changed")
}

func mustBeTold(t *testing.T, d *draft.Draft, want, why string) {
	t.Helper()
	if got := whole(t, d); got != want {
		t.Fatalf("15.4: %s: %s, not %s", why, got, want)
	}
}

// TestTheSameForTheSame: the bytes of what was done are always the same (rule 7).
func TestTheSameForTheSame(t *testing.T) {
	var first string
	for range 3 {
		d, s, _ := filled(t)
		mustTell(t, s.Apply(1, d.Changes()), api.OK, "6.3: Apply")
		if first == "" {
			first = exported(t, s)
		}
		if exported(t, s) != first {
			t.Fatal("rule 7: other bytes for the same")
		}
	}
}

func TestADeadStore(t *testing.T) {
	d, s, x := filled(t)
	mustTell(t, s.Apply(1, d.Changes()), api.OK, "6.3: Apply")
	d = over(t, s)
	mustInsert(t, d, "t", values{num(50), none()})
	x.Cut(disk.Loss{Torn: -1})
	for range 2 {
		for what, call := range calls(d, "t") {
			mustRefuse(t, d, api.ErrDown, what+" over a dead store", func() api.Errno {
				told, e := call()
				if told != 0 {
					t.Errorf("rule 4: %s told something beside error %d", what, e)
				}
				return e
			})
		}
		for _, s := range []api.Schema{little(), mixed()} {
			mustNotCreate(t, d, s, api.ErrDown, "over a dead store")
		}
		mustNotCreate(t, d, api.Schema{}, api.ErrSchema, "of what is not Right, over a dead store")
		mustRefuse(t, d, api.ErrDown, "Names over a dead store", func() api.Errno { l, e := Names(d); return e + api.Errno(len(l)) })
		x.Restart()
	}
}

// TestAPageThatDoesNotRead: what the draft refuses is told, nothing is changed, and a page that is turned back reads again.
func TestAPageThatDoesNotRead(t *testing.T) {
	d, s, x := filled(t)
	mustTell(t, s.Apply(1, d.Changes()), api.OK, "6.3: Apply")
	d = over(t, s)
	told, met := whole(t, d), map[string]int{}
	for id := 2; id < x.Blocks(); id++ {
		x.Flip(id, 99)
		if s.Check() == api.ErrCorrupt {
			meet(t, d, met)
		}
		x.Flip(id, 99)
	}
	mustBeTold(t, d, told, "behind ErrCorrupt, turned back")
	for _, what := range []string{"Schema", "Insert", "Update", "Delete", "Get", "Scan", "Len", "Create", "Names"} {
		if met[what] == 0 {
			t.Errorf("15: %s met no page that does not read", what)
		}
	}
}

// meet counts which calls are ErrCorrupt.
func meet(t *testing.T, d *draft.Draft, met map[string]int) {
	t.Helper()
	all := calls(d, "t")
	all["Create"] = func() (int, api.Errno) { return 0, Create(d, mixed()) }
	all["Names"] = func() (int, api.Errno) { l, e := Names(d); return len(l), e }
	for what, call := range all {
		n, e := call()
		if e == api.ErrCorrupt {
			met[what]++
			if n != 0 || d.Mark() != 0 {
				t.Fatalf("rule 4: %s told or changed something beside ErrCorrupt", what)
			}
		}
		mustTell(t, d.Back(0), api.OK, "13.2: Back")
	}
}

// TestWhatNobodyLaidDown is ErrCorrupt, wherever a call meets it.
func TestWhatNobodyLaidDown(t *testing.T) {
	for why, b := range map[string][]byte{"none": nil, "a number alone": {0}, "no schema": {0, 1, 2, 3}, "bytes 255": {255, 255, 255}} {
		d := newDraft(t)
		mustTell(t, d.Put(tableSpace, []byte("t"), b), api.OK, "13.1: Put")
		for what, call := range calls(d, "t") {
			mustRefuse(t, d, api.ErrCorrupt, what+" of a table of "+why, func() api.Errno { _, e := call(); return e })
		}
		mustNotCreate(t, d, little(), api.ErrCorrupt, "of a table of "+why)
	}
	d := newDraft(t, mixed())
	b, _, e := d.Get(tableSpace, []byte("mixed"))
	mustTell(t, e, api.OK, "13.1: Get")
	mustTell(t, d.Put(tableSpace, []byte("t"), b), api.OK, "13.1: Put")
	if _, e := Schema(d, "t"); e != api.ErrCorrupt {
		t.Errorf("15.1: Schema of another one's bytes: error %d", e)
	}
	for why, b := range map[string][]byte{"none": nil, "no values": {0}, "another Kind": {2, 1, 1}, "too few": {1, 2, 128, 0, 0, 0, 0, 0, 0, 1}, "no row": {9, 9, 9}} {
		d := newDraft(t, little())
		mustInsert(t, d, "t", values{num(1), word("a")})
		for _, c := range d.Changes() {
			if c.Space == rowSpace {
				mustTell(t, d.Put(rowSpace, c.Key, b), api.OK, "13.1: Put")
			}
		}
		mustNotFind(t, d, "t", num(1), api.ErrCorrupt, "of a row of "+why)
		mustNotInsert(t, d, "t", values{num(1), none()}, api.ErrCorrupt, "of a row of "+why)
		mustNotUpdate(t, d, "t", values{num(1), none()}, api.ErrCorrupt, "of a row of "+why)
		mustNotScan(t, d, "t", 0, none(), none(), 1, api.ErrCorrupt, "of a row of "+why)
		mustNotScan(t, d, "t", 1, none(), none(), 1, api.ErrCorrupt, "of a row of "+why)
	}
}

// TestAllOrNone: of changes one of which a draft refuses none is made.
func TestAllOrNone(t *testing.T) {
	d := newDraft(t, little())
	key, long := []byte("k"), make([]byte, 61)
	some := api.Change{Pair: api.Pair{Space: rowSpace, Key: key}}
	for _, wrong := range []api.Change{{Pair: api.Pair{Space: rowSpace, Key: long}}, {Pair: api.Pair{Space: rowSpace, Key: long}, Gone: true}} {
		mustRefuse(t, d, api.ErrLong, "some changes", func() api.Errno { return makeAll(d, []api.Change{some, wrong, some}) })
	}
}
