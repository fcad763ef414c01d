package session

import (
	"fmt"
	"math"
	"slices"
	"strings"
	"testing"

	"headland/api"
	"headland/disk"
	"headland/draft"
	"headland/local"
)

type (
	values = []api.Value
	rows   = [][]api.Value
)

const (
	mostSeq = 1<<31 - 1
	// States, as the chapter numbers them.
	fresh, again, stale = 0, 1, 2
)

func none() api.Value         { return api.Value{} }
func num(n int) api.Value     { return api.Value{Kind: api.Int, N: n} }
func word(s string) api.Value { return api.Value{Kind: api.Text, S: s} }
func truth(n int) api.Value   { return api.Value{Kind: api.Bool, N: n} }

// fullReply is a reply of as many bytes as one may have.
func fullReply() api.Reply {
	longest := word(strings.Repeat("\U0010FFFF", 8))
	return api.Reply{Err: 1 << 16, At: 2, Rows: slices.Repeat(rows{{longest, longest, longest}}, 12)}
}

// someReplies may be kept; no two are the same.
func someReplies() []api.Reply {
	row := values{num(math.MinInt), word("ÄÖÜäöüßx"), truth(1)}
	return []api.Reply{{}, fullReply(), {Err: api.ErrKey, At: 2}, {Err: 1}, {Err: 1 << 16}, {At: 1}, {At: 2}, {Err: 1 << 16, At: 2},
		{Rows: rows{nil}}, {Rows: rows{nil, nil}}, {Rows: make(rows, 12)}, {Rows: rows{{num(5)}}}, {Rows: rows{{none()}}}, {Rows: rows{{none(), none(), none()}}}, {Rows: rows{row, nil, {word("")}}}, {Rows: rows{nil, row}}, {Rows: slices.Repeat(rows{row}, 11)}, {Rows: slices.Repeat(rows{row}, 12)}, {Err: api.ErrUnique, At: 1, Rows: rows{row}}, {Rows: rows{{num(math.MaxInt)}, {truth(0)}}}}
}

// wrongReplies are refused by entry.
func wrongReplies() []api.Reply {
	wrong := func(v ...api.Value) api.Reply { return api.Reply{Rows: rows{{num(1)}, v}} }
	return []api.Reply{{Err: -1}, {Err: 1<<16 + 1}, {Err: math.MinInt}, {Err: math.MaxInt}, {At: -1}, {At: 3}, {At: math.MinInt}, {At: math.MaxInt}, {Rows: make(rows, 13)}, {Rows: slices.Repeat(rows{{num(1)}}, 13)}, {Rows: make(rows, 1000)},
		wrong(num(1), num(2), num(3), num(4)), wrong(api.Value{Kind: 4}), wrong(api.Value{Kind: -1}), wrong(api.Value{N: 1}), wrong(truth(2)), wrong(word("\xFF")), wrong(word("123456789")), wrong(word(strings.Repeat("a", 2000))), wrong(none(), api.Value{Kind: api.Int, S: "a"})}
}

func newStore(t *testing.T) (*local.Store, *disk.Disk) {
	t.Helper()
	x, e := disk.New(400)
	mustTell(t, e, api.OK, "3.1: New")
	s, e := local.Open(x)
	mustTell(t, e, api.OK, "6.1: Open")
	return s, x
}

func over(t *testing.T, s *local.Store) *draft.Draft {
	t.Helper()
	d, e := draft.New(s)
	mustTell(t, e, api.OK, "13.1: New")
	return d
}

func newDraft(t *testing.T) *draft.Draft {
	t.Helper()
	s, _ := newStore(t)
	return over(t, s)
}

// filled is a draft over a store that has four sessions and other pairs, which has changed some itself.
func filled(t *testing.T) (*draft.Draft, *local.Store, *disk.Disk) {
	t.Helper()
	s, x := newStore(t)
	d := over(t, s)
	for i, session := range []int{0, 1, 3, 7} {
		mustKeep(t, d, session, 10*(i+1), someReplies()[i+1])
	}
	for space := range 4 {
		for i := range 9 {
			mustTell(t, d.Put(space, fmt.Append(nil, "other", i), []byte(strings.Repeat("x", 900))), api.OK, "13.1: Put")
		}
	}
	mustTell(t, s.Apply(1, d.Changes()), api.OK, "6.3: Apply")
	d = over(t, s)
	mustKeep(t, d, 1, 21, api.Reply{Rows: rows{{num(21)}}})
	mustKeep(t, d, 5, 1, api.Reply{Err: api.ErrNone})
	mustTell(t, d.Put(9, []byte("mine"), []byte("own")), api.OK, "13.1: Put")
	return d, s, x
}

func mustTell(t *testing.T, got, want api.Errno, why string) {
	t.Helper()
	if got != want {
		t.Fatalf("%s: error %d, not %d", why, got, want)
	}
}

func mustLook(t *testing.T, d *draft.Draft, session, seq, state int, want api.Reply, why string) {
	t.Helper()
	was := changed(d)
	got, r, e := Look(d, session, seq)
	if got != state || spelled(r) != spelled(want) || e != api.OK {
		t.Fatalf("18.1: %s: Look of %d, %d: %d, %s, error %d; not %d, %s", why, session, seq, got, spelled(r), e, state, spelled(want))
	}
	if changed(d) != was {
		t.Fatalf("18.1: %s: Look of %d, %d turned the draft", why, session, seq)
	}
}

func mustNotLook(t *testing.T, d *draft.Draft, session, seq int, want api.Errno, why string) {
	t.Helper()
	if state, r, e := Look(d, session, seq); state != 0 || spelled(r) != spelled(api.Reply{}) || e != want {
		t.Fatalf("18.1: %s: Look of %d, %d: %d, %s, error %d; not %d", why, session, seq, state, spelled(r), e, want)
	}
}

// mustKeep keeps a reply, which is then told.
func mustKeep(t *testing.T, d *draft.Draft, session, seq int, r api.Reply) {
	t.Helper()
	if e := Keep(d, session, seq, r); e != api.OK {
		t.Fatalf("18.1: Keep of %d, %d, %s: error %d", session, seq, spelled(r), e)
	}
	mustLook(t, d, session, seq, again, r, "behind its Keep")
	mustLast(t, d, session, seq, "behind its Keep")
}

// mustNotKeep says by what a Keep is refused, and that it leaves the draft as it was.
func mustNotKeep(t *testing.T, d *draft.Draft, session, seq int, r api.Reply, want api.Errno, why string) {
	t.Helper()
	was := ""
	if d != nil {
		was = changed(d)
	}
	mustTell(t, Keep(d, session, seq, r), want, fmt.Sprintf("18.1: %s: Keep of %d, %d, %s", why, session, seq, spelled(r)))
	if d != nil && changed(d) != was {
		t.Fatalf("rule 4: %s: Keep of %d, %d, refused by %d, turned the draft", why, session, seq, want)
	}
}

func mustLast(t *testing.T, d *draft.Draft, session, want int, why string) {
	t.Helper()
	if n, e := Last(d, session); n != want || e != api.OK {
		t.Fatalf("18.1: %s: Last of %d: %d, error %d; not %d", why, session, n, e, want)
	}
}

func mustNotLast(t *testing.T, d *draft.Draft, session int, want api.Errno, why string) {
	t.Helper()
	if n, e := Last(d, session); n != 0 || e != want {
		t.Fatalf("18.1: %s: Last of %d: %d, error %d; not %d", why, session, n, e, want)
	}
}

func changed(d *draft.Draft) string { return fmt.Sprint(d.Mark(), d.Changes()) }

// whole is all that a draft tells: its changes, its pairs, and of each session the last number and its reply.
func whole(t *testing.T, d *draft.Draft) string {
	t.Helper()
	told := changed(d)
	for space := range api.MaxSpaces {
		l, e := d.Range(space, nil, nil, math.MaxInt)
		mustTell(t, e, api.OK, "13.1: Range")
		told += fmt.Sprint(l)
	}
	return told + sessions(t, d)
}

// sessions is what a draft tells of each session.
func sessions(t *testing.T, d *draft.Draft) (told string) {
	t.Helper()
	for session := range api.MaxSessions {
		told += toldOf(t, d, session)
	}
	return told
}

func toldOf(t *testing.T, d *draft.Draft, session int) string {
	t.Helper()
	n, e := Last(d, session)
	mustTell(t, e, api.OK, "18.1: Last")
	if n == 0 {
		return fmt.Sprintln(session, "has none")
	}
	state, r, e := Look(d, session, n)
	mustTell(t, e, api.OK, "18.1: Look")
	return fmt.Sprintln(session, n, state, spelled(r))
}

// spelled is a Reply as a text, with all fields of each value.
func spelled(r api.Reply) string {
	told := fmt.Sprint(r.Err, " at ", r.At, ":")
	for _, l := range r.Rows {
		told += " ("
		for _, v := range l {
			told += fmt.Sprintf(" %d/%d/%q", v.Kind, v.N, v.S)
		}
		told += " )"
	}
	return told
}
