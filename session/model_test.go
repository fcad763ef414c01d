package session

import (
	"fmt"
	"math/rand"
	"testing"

	"headland/api"
	"headland/draft"
	"headland/local"
)

// plain is what a draft keeps of each session: its numbers and replies, the last one last.
type plain [api.MaxSessions][]kept

type kept struct {
	seq   int
	reply api.Reply
}

func (p plain) last(session int) kept {
	if l := p[session]; len(l) > 0 {
		return l[len(l)-1]
	}
	return kept{}
}

func (p plain) look(session, seq int) (int, api.Reply, api.Errno) {
	switch l := p.last(session); {
	case seq < 1 || seq > mostSeq:
		return 0, api.Reply{}, api.ErrArg
	case seq > l.seq:
		return fresh, api.Reply{}, api.OK
	case seq < l.seq:
		return stale, api.Reply{}, api.OK
	default:
		return again, l.reply, api.OK
	}
}

func (p *plain) keep(session, seq int, r api.Reply, wrong bool) api.Errno {
	switch {
	case seq < 1 || seq > mostSeq:
		return api.ErrArg
	case seq <= p.last(session).seq:
		return api.ErrStale
	case wrong:
		return api.ErrArg
	}
	// In new memory, so that a plain that was put aside stays.
	p[session] = append(append([]kept(nil), p[session]...), kept{seq, r})
	return api.OK
}

// run is a draft beside its plain, and the store's.
type run struct {
	store         *local.Store
	draft         *draft.Draft
	now, applied  plain
	marks         []int
	then          []plain
	right, refuse []api.Reply
}

// TestAgainstAPlainModel: Looks, Keeps and Lasts in a mixed row, taken back, applied, and read by a draft that is made anew.
func TestAgainstAPlainModel(t *testing.T) {
	for seed := range int64(15) {
		r := rand.New(rand.NewSource(seed))
		s, _ := newStore(t)
		x := &run{store: s, draft: over(t, s), right: someReplies(), refuse: wrongReplies()}
		for step := range 150 {
			x.step(t, r, fmt.Sprint("seed ", seed, ", step ", step))
			x.mustAgree(t, fmt.Sprint("seed ", seed, ", step ", step))
		}
	}
}

func (x *run) step(t *testing.T, r *rand.Rand, why string) {
	t.Helper()
	switch r.Intn(20) {
	case 0:
		x.marks, x.then = append(x.marks, x.draft.Mark()), append(x.then, x.now)
	case 1:
		if len(x.marks) > 0 {
			i := r.Intn(len(x.marks))
			mustTell(t, x.draft.Back(x.marks[i]), api.OK, why+": Back")
			x.now, x.marks, x.then = x.then[i], x.marks[:i], x.then[:i]
		}
	case 2:
		mustTell(t, x.store.Apply(x.store.Pos()+1, x.draft.Changes()), api.OK, why+": Apply")
		x.applied = x.now
		x.anew(t)
	case 3:
		x.now = x.applied
		x.anew(t)
	default:
		x.keep(t, r, why)
	}
}

func (x *run) anew(t *testing.T) {
	t.Helper()
	x.draft, x.marks, x.then = over(t, x.store), nil, nil
}

func (x *run) keep(t *testing.T, r *rand.Rand, why string) {
	t.Helper()
	session := r.Intn(api.MaxSessions)
	seq := x.now.last(session).seq + r.Intn(6) - 2
	if r.Intn(30) == 0 {
		seq = mostSeq - 1 + r.Intn(3)
	}
	reply, wrong := x.right[r.Intn(len(x.right))], r.Intn(8) == 0
	if wrong {
		reply = x.refuse[r.Intn(len(x.refuse))]
	}
	want := x.now.keep(session, seq, reply, wrong)
	mustTell(t, Keep(x.draft, session, seq, reply), want, "18.1: "+why+": Keep")
}

func (x *run) mustAgree(t *testing.T, why string) {
	t.Helper()
	for session := range api.MaxSessions {
		last := x.now.last(session).seq
		mustLast(t, x.draft, session, last, why)
		for seq := last - 2; seq <= last+2; seq++ {
			state, r, e := x.now.look(session, seq)
			if e != api.OK {
				mustNotLook(t, x.draft, session, seq, e, why)
				continue
			}
			if got, told, e := Look(x.draft, session, seq); got != state || spelled(told) != spelled(r) || e != api.OK {
				t.Fatalf("18.1: %s: Look of %d, %d: %d, %s, error %d; not %d, %s", why, session, seq, got, spelled(told), e, state, spelled(r))
			}
		}
	}
}
