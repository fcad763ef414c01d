package session

import (
	"fmt"
	"strings"
	"testing"

	"headland/api"
	"headland/disk"
	"headland/draft"
	"headland/local"
	"headland/table"
	"headland/txn"
)

// TestSessionsKnowNothingOfOneAnother: what one keeps is to be seen by it alone.
func TestSessionsKnowNothingOfOneAnother(t *testing.T) {
	d := newDraft(t)
	for round := range 3 {
		for session := range api.MaxSessions {
			var was [api.MaxSessions]string
			for other := range was {
				was[other] = toldOf(t, d, other)
			}
			mustKeep(t, d, session, 100*round+10-session, someReplies()[round+session])
			for other := range was {
				if is := toldOf(t, d, other); other != session && is != was[other] {
					t.Fatalf("18.2: a Keep of %d turned %s into %s", session, was[other], is)
				}
			}
		}
	}
}

// TestAsLongAsNoGreaterIsKept: a reply is told whatever is asked, refused or kept of others.
func TestAsLongAsNoGreaterIsKept(t *testing.T) {
	d, r := newDraft(t), fullReply()
	mustKeep(t, d, 4, 50, r)
	for i, q := range append(someReplies(), wrongReplies()...) {
		Keep(d, 4, 1+i%50, q)
		Keep(d, 4, 50, q)
		Keep(d, 4, 1<<31, q)
		Keep(d, 4, 0, q)
		Keep(d, 3, 50+i, q)
		Keep(d, 5, 51+i, q)
		Look(d, 4, 51)
		Look(d, 4, mostSeq)
		Last(d, 4)
		for _, wrong := range wrongReplies() {
			Keep(d, 4, 51+i, wrong)
		}
		mustLook(t, d, 4, 50, again, r, "no greater one is kept")
		mustLook(t, d, 4, 51, fresh, api.Reply{}, "no greater one is kept")
		mustLast(t, d, 4, 50, "no greater one is kept")
	}
	mustKeep(t, d, 4, 51, api.Reply{})
	mustLook(t, d, 4, 50, stale, api.Reply{}, "a greater one is kept")
}

// TestApplied: once the changes are applied, each draft over the store tells what was kept, also when it is opened anew.
func TestApplied(t *testing.T) {
	s, x := newStore(t)
	d, early := over(t, s), over(t, s)
	for session := range api.MaxSessions {
		mustKeep(t, d, session, 1<<(4*session), someReplies()[session])
	}
	mustLook(t, early, 7, 1<<28, fresh, api.Reply{}, "not applied yet")
	mustLast(t, early, 7, 0, "not applied yet")
	mustApply(t, s, d)
	told := sessions(t, d)
	anew := openAnew(t, x)
	for _, other := range []*draft.Draft{early, over(t, s), over(t, anew)} {
		if got := sessions(t, other); got != told {
			t.Fatalf("18.2: another draft: %s, not %s", got, told)
		}
		for session := range api.MaxSessions {
			seq := 1 << (4 * session)
			mustLook(t, other, session, seq, again, someReplies()[session], "another draft")
			mustNotKeep(t, other, session, seq, api.Reply{}, api.ErrStale, "another draft")
			mustKeep(t, other, session, seq+1, api.Reply{At: 1})
			mustLook(t, other, session, seq, stale, api.Reply{}, "another draft, behind its own Keep")
		}
	}
	if sessions(t, over(t, anew)) != told {
		t.Fatal("18.2: what was not applied turned the store")
	}
}

func mustApply(t *testing.T, s *local.Store, d *draft.Draft) {
	t.Helper()
	mustTell(t, s.Apply(s.Pos()+1, d.Changes()), api.OK, "6.3: Apply")
}

func openAnew(t *testing.T, x *disk.Disk) *local.Store {
	t.Helper()
	s, e := local.Open(x)
	mustTell(t, e, api.OK, "6.1: Open")
	return s
}

// TestReplaced: a greater number that is applied over an applied one.
func TestReplaced(t *testing.T) {
	s, _ := newStore(t)
	for i, r := range append(someReplies(), fullReply(), api.Reply{}) {
		d := over(t, s)
		mustKeep(t, d, 2, i+1, r)
		mustApply(t, s, d)
		mustLook(t, over(t, s), 2, i+1, again, r, "applied")
		mustLook(t, over(t, s), 2, i+2, fresh, api.Reply{}, "applied")
		if i > 0 {
			mustLook(t, over(t, s), 2, i, stale, api.Reply{}, "applied")
		}
	}
}

// TestBack: changes that are taken back to a mark take back what was kept behind it.
func TestBack(t *testing.T) {
	s, _ := newStore(t)
	d := over(t, s)
	mustKeep(t, d, 1, 5, api.Reply{Err: api.ErrRow})
	mustApply(t, s, d)
	d = over(t, s)
	var marks []int
	var told []string
	for i, session := range []int{1, 1, 0, 7, 1, 0, 3} {
		marks, told = append(marks, d.Mark()), append(told, whole(t, d))
		mustKeep(t, d, session, 10*(i+1), someReplies()[i])
	}
	for i := len(marks) - 1; i >= 0; i-- {
		mustTell(t, d.Back(marks[i]), api.OK, "13.2: Back")
		if got := whole(t, d); got != told[i] {
			t.Fatalf("18.2: behind a Back: %s, not %s", got, told[i])
		}
	}
	mustLook(t, d, 1, 5, again, api.Reply{Err: api.ErrRow}, "all is taken back")
	mustLook(t, d, 1, 10, fresh, api.Reply{}, "all is taken back")
	mustKeep(t, d, 1, 10, api.Reply{At: 2})
	mustLast(t, d, 0, 0, "all is taken back")
}

// TestOtherChanges of the same draft are left alone, tables' too, and leave what is kept alone.
func TestOtherChanges(t *testing.T) {
	d := newDraft(t)
	schema := api.Schema{Name: "t", Columns: []api.Column{{Name: "k", Kind: api.Int}, {Name: "n", Kind: api.Text, Max: 3}}, Indexes: []api.Index{{Column: 1, Unique: true}}}
	mustTell(t, table.Create(d, schema), api.OK, "15.1: Create")
	for n := range 9 {
		mustTell(t, table.Insert(d, "t", values{num(n), word(fmt.Sprint(n))}), api.OK, "15.2: Insert")
	}
	for space := range api.MaxSpaces {
		for _, key := range []string{"\x00", "\x01", "\x07", "a", strings.Repeat("z", 60)} {
			if space > 2 {
				mustTell(t, d.Put(space, []byte(key), []byte("other")), api.OK, "13.1: Put")
			}
		}
	}
	was, mark, tables := others(t, d), d.Mark(), rowsOf(t, d)
	for session := range api.MaxSessions {
		mustKeep(t, d, session, 7, fullReply())
		mustKeep(t, d, session, 8, api.Reply{At: session % 3})
		mustNotKeep(t, d, session, 8, api.Reply{}, api.ErrStale, "beside other changes")
	}
	told := sessions(t, d)
	if others(t, d) != was || rowsOf(t, d) != tables || d.Mark() < mark {
		t.Fatal("18.1: a Keep turned other changes")
	}
	mustTell(t, table.Delete(d, "t", num(3)), api.OK, "15.2: Delete")
	for space := 3; space < api.MaxSpaces; space++ {
		mustTell(t, d.Delete(space, []byte("\x07")), api.OK, "13.1: Delete")
	}
	if sessions(t, d) != told {
		t.Fatal("18.2: other changes turned what is kept")
	}
}

// others is all pairs but those of the sessions' space, which lies behind the tables'.
func others(t *testing.T, d *draft.Draft) (told string) {
	t.Helper()
	for at := range api.MaxSpaces {
		l, e := d.Range(at, nil, nil, 1000)
		mustTell(t, e, api.OK, "13.1: Range")
		if at != 2 {
			told += fmt.Sprintln(at, l)
		}
	}
	return told
}

func rowsOf(t *testing.T, d *draft.Draft) string {
	t.Helper()
	r, e := txn.Run(d, []api.Op{{Kind: api.Scan, Table: "t", Limit: 4}, {Kind: api.Scan, Table: "t", Column: 1, Limit: 4}}, 1)
	mustTell(t, e, api.OK, "16.2: Run")
	return spelled(r)
}
