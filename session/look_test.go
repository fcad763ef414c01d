package session

import (
	"fmt"
	"math"
	"testing"

	"headland/api"
)

// TestExamples are the document's.
func TestExamples(t *testing.T) {
	d := newDraft(t)
	r, q := api.Reply{Err: api.ErrKey, At: 2}, api.Reply{Rows: rows{{num(5)}}}
	mustLook(t, d, 0, 3, fresh, api.Reply{}, "example")
	mustTell(t, Keep(d, 0, 3, r), api.OK, "18.1: example: Keep")
	mustLook(t, d, 0, 3, again, r, "example")
	mustLook(t, d, 0, 2, stale, api.Reply{}, "example")
	mustNotKeep(t, d, 0, 3, q, api.ErrStale, "example")
	mustLast(t, d, 0, 3, "example")
	mustLast(t, d, 1, 0, "example")
}

// TestStates: each number is told by where it is to the last one.
func TestStates(t *testing.T) {
	r := api.Reply{Err: api.ErrRow, At: 1, Rows: rows{{num(1)}}}
	numbers := []int{1, 2, 3, 4, 126, 127, 128, 129, 254, 255, 256, 257, 65535, 65536, 65537, 1<<24 - 1, 1 << 24, 1<<24 + 1, 1 << 30, mostSeq - 2, mostSeq - 1, mostSeq}
	d := newDraft(t)
	for _, seq := range numbers {
		mustLook(t, d, 4, seq, fresh, api.Reply{}, "no number is kept")
	}
	mustLast(t, d, 4, 0, "no number is kept")
	for _, last := range numbers {
		d := newDraft(t)
		mustKeep(t, d, 4, last, r)
		for _, seq := range numbers {
			why := fmt.Sprint("behind a Keep of ", last)
			switch {
			case seq > last:
				mustLook(t, d, 4, seq, fresh, api.Reply{}, why)
			case seq == last:
				mustLook(t, d, 4, seq, again, r, why)
			default:
				mustLook(t, d, 4, seq, stale, api.Reply{}, why)
			}
		}
		mustLast(t, d, 4, last, "behind Looks")
	}
}

// TestKeepsOf each number behind each other one: what is not above the last number is refused.
func TestKeepsOf(t *testing.T) {
	numbers := []int{1, 2, 3, 255, 256, 257, 511, 512, 65536, 1 << 24, 1 << 30, mostSeq - 1, mostSeq}
	r, q := api.Reply{Rows: rows{{word("r")}}}, api.Reply{Rows: rows{{word("q")}, {word("q")}}}
	for _, last := range numbers {
		for _, seq := range numbers {
			d := newDraft(t)
			mustKeep(t, d, 2, last, r)
			if seq > last {
				mustKeep(t, d, 2, seq, q)
				mustLook(t, d, 2, last, stale, api.Reply{}, "a greater number is kept")
				continue
			}
			mustNotKeep(t, d, 2, seq, q, api.ErrStale, "not above the last")
			mustLook(t, d, 2, last, again, r, "behind a refused Keep")
			mustLast(t, d, 2, last, "behind a refused Keep")
		}
	}
}

// TestGaps: numbers may leave some out, which are stale from then on.
func TestGaps(t *testing.T) {
	d := newDraft(t)
	for i, seq := range []int{5, 6, 100, 70000, mostSeq - 1, mostSeq} {
		r := someReplies()[i]
		mustLook(t, d, 6, seq, fresh, api.Reply{}, "with a gap")
		mustKeep(t, d, 6, seq, r)
		mustLook(t, d, 6, seq-1, stale, api.Reply{}, "left out, or kept ahead")
		mustNotKeep(t, d, 6, seq-1, api.Reply{}, api.ErrStale, "left out, or kept ahead")
		mustNotKeep(t, d, 6, seq, r, api.ErrStale, "the same once more")
		mustNotKeep(t, d, 6, 1, r, api.ErrStale, "the first")
		mustLook(t, d, 6, seq, again, r, "behind refused Keeps")
		mustLast(t, d, 6, seq, "behind refused Keeps")
	}
}

// TestReplies: each one that may be kept is told, behind each other one.
func TestReplies(t *testing.T) {
	d, seq := newDraft(t), 0
	for _, before := range someReplies() {
		for _, r := range someReplies() {
			mustKeep(t, d, 3, seq+1, before)
			mustKeep(t, d, 3, seq+2, r)
			mustLook(t, d, 3, seq+1, stale, api.Reply{}, "the one ahead")
			mustLook(t, d, 3, seq+3, fresh, api.Reply{}, "the next one")
			seq += 2
		}
	}
}

// TestWrongReplies: what entry refuses is told and not kept, for the first number and for a later one.
func TestWrongReplies(t *testing.T) {
	for _, wrong := range wrongReplies() {
		d := newDraft(t)
		mustNotKeep(t, d, 0, 1, wrong, api.ErrArg, "the first number")
		mustLook(t, d, 0, 1, fresh, api.Reply{}, "behind a refused Keep")
		mustLast(t, d, 0, 0, "behind a refused Keep")
		for _, r := range someReplies() {
			mustKeep(t, d, 0, 3, r)
			mustNotKeep(t, d, 0, 4, wrong, api.ErrArg, "a later number")
			mustNotKeep(t, d, 0, mostSeq, wrong, api.ErrArg, "the last number")
			mustLook(t, d, 0, 3, again, r, "behind a refused Keep")
			mustLook(t, d, 0, 4, fresh, api.Reply{}, "behind a refused Keep")
			mustLast(t, d, 0, 3, "behind a refused Keep")
			mustTell(t, d.Back(0), api.OK, "13.2: Back")
		}
		mustKeep(t, d, 0, 1, fullReply())
	}
}

var (
	outside   = []int{-1, 8, 9, -8, 255, 256, 263, math.MinInt, math.MaxInt}
	noNumbers = []int{0, -1, 1 << 31, 1<<31 + 1, 1<<32 + 1, -mostSeq, math.MinInt, math.MaxInt}
)

// TestArguments: sessions and numbers that there are not are refused ahead of all else.
func TestArguments(t *testing.T) {
	d, _, _ := filled(t)
	told := whole(t, d)
	replies := append(wrongReplies(), someReplies()...)
	for _, session := range append([]int{0, 1, 2, 5, 7}, outside...) {
		isOutside := session < 0 || session > 7
		for _, seq := range append([]int{1, 10, 20, mostSeq}, noNumbers...) {
			if !isOutside && 1 <= seq && seq <= mostSeq {
				continue
			}
			mustNotLook(t, d, session, seq, api.ErrArg, "a session or a number that there is not")
			for _, r := range replies {
				mustNotKeep(t, d, session, seq, r, api.ErrArg, "a session or a number that there is not")
			}
		}
		if isOutside {
			mustNotLast(t, d, session, api.ErrArg, "no session")
		}
	}
	if whole(t, d) != told {
		t.Fatal("rule 4: refused calls turned the draft")
	}
}

// TestEnds: the first and the last session, the first and the last number.
func TestEnds(t *testing.T) {
	for _, session := range []int{0, 7} {
		for _, seq := range []int{1, mostSeq} {
			d, r := newDraft(t), fullReply()
			mustLook(t, d, session, seq, fresh, api.Reply{}, "at an end")
			mustKeep(t, d, session, seq, r)
			mustNotKeep(t, d, session, seq, r, api.ErrStale, "at an end")
			mustLast(t, d, session, seq, "at an end")
			mustLast(t, d, 7-session, 0, "at the other end")
		}
	}
}

// TestNoDraft: a nil draft is refused ahead of all else.
func TestNoDraft(t *testing.T) {
	for _, session := range append([]int{0, 7}, outside...) {
		mustNotLast(t, nil, session, api.ErrArg, "no draft")
		for _, seq := range append([]int{1, mostSeq}, noNumbers...) {
			mustNotLook(t, nil, session, seq, api.ErrArg, "no draft")
			mustNotKeep(t, nil, session, seq, fullReply(), api.ErrArg, "no draft")
			mustNotKeep(t, nil, session, seq, api.Reply{At: 3}, api.ErrArg, "no draft")
		}
	}
}

// TestOrder: of several refusals the first is told: the session or the number, then what is stale, then the reply.
func TestOrder(t *testing.T) {
	d := newDraft(t)
	mustKeep(t, d, 0, 9, api.Reply{Rows: rows{{num(9)}}})
	for _, wrong := range wrongReplies() {
		mustNotKeep(t, d, 0, 9, wrong, api.ErrStale, "stale, with a reply that may not be")
		mustNotKeep(t, d, 0, 1, wrong, api.ErrStale, "stale, with a reply that may not be")
		mustNotKeep(t, d, 0, 10, wrong, api.ErrArg, "new, with a reply that may not be")
		mustNotKeep(t, d, 1, 9, wrong, api.ErrArg, "new to another session, with a reply that may not be")
		mustNotKeep(t, d, 0, 0, wrong, api.ErrArg, "no number")
		mustNotKeep(t, d, 8, 9, wrong, api.ErrArg, "no session")
	}
	mustNotKeep(t, d, 0, 0, api.Reply{}, api.ErrArg, "no number, ahead of being stale")
	mustNotKeep(t, d, 0, -9, api.Reply{}, api.ErrArg, "no number, ahead of being stale")
	mustLook(t, d, 0, 9, again, api.Reply{Rows: rows{{num(9)}}}, "behind refused Keeps")
	mustLook(t, d, 0, 10, fresh, api.Reply{}, "behind refused Keeps")
}
