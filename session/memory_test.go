package session

import (
	"reflect"
	"slices"
	"testing"

	"headland/api"
)

// roomy is a list with spare room behind it that is filled, so that a write into it shows.
func roomy[T any](l []T, spare ...T) []T {
	return slices.Clip(append(slices.Clone(l), spare...))[:len(l)]
}

func room[T any](l []T) []T { return l[:cap(l)] }

// roomyReply has the same in lists that have spare room.
func roomyReply(r api.Reply) api.Reply {
	r.Rows = roomy(r.Rows, values{word("SPARE")}, values{num(77)})
	for i, row := range r.Rows {
		r.Rows[i] = roomy(row, word("SPARE"), num(77), truth(1))
	}
	return r
}

// wide is a reply's copy whose lists have what stands in their spare room, too.
func wide(r api.Reply) api.Reply {
	r.Rows = slices.Clone(room(r.Rows))
	for i, row := range r.Rows {
		r.Rows[i] = slices.Clone(room(row))
	}
	return r
}

// spoil lays others over all of a reply, and over its spare room.
func spoil(r api.Reply) {
	for _, row := range room(r.Rows) {
		for i := range room(row) {
			room(row)[i] = word("spoilt")
		}
	}
	for i := range room(r.Rows) {
		room(r.Rows)[i] = values{num(13)}
	}
}

// TestWhatIsHandedIn is not changed, kept or refused, and not kept itself.
func TestWhatIsHandedIn(t *testing.T) {
	d, _, _ := filled(t)
	for i, r := range append(someReplies(), wrongReplies()...) {
		own := roomyReply(r)
		was := wide(own)
		kept := Keep(d, 6, i+1, own)
		Keep(d, 6, i+1, own)
		Keep(d, 8, i+1, own)
		Keep(nil, 6, i+1, own)
		if !reflect.DeepEqual(wide(own), was) {
			t.Fatalf("rule 2: Keep of %s turned what was handed in", spelled(r))
		}
		told := whole(t, d)
		spoil(own)
		if whole(t, d) != told {
			t.Fatalf("rule 2: %s, turned behind its Keep, turns what is kept", spelled(r))
		}
		if kept == api.OK {
			mustLook(t, d, 6, i+1, again, r, "rule 2: turned behind its Keep")
		}
	}
}

// TestWhatIsToldIsNewMemory: what a Look told may be turned, and nothing else is; and it stays.
func TestWhatIsToldIsNewMemory(t *testing.T) {
	d, s, _ := filled(t)
	for i, r := range someReplies() {
		mustKeep(t, d, 6, i+1, r)
		was := whole(t, d)
		_, one, _ := Look(d, 6, i+1)
		_, other, _ := Look(d, 6, i+1)
		for at, row := range one.Rows {
			for n := range room(row) {
				room(row)[n] = num(1000 + at)
			}
			for n, next := range one.Rows {
				if n != at && slices.Contains(room(next), num(1000+at)) {
					t.Fatal("rule 2: two rows of one Reply share memory")
				}
			}
		}
		spoil(one)
		if spelled(other) != spelled(r) {
			t.Fatal("rule 2: two Replies share memory")
		}
		if whole(t, d) != was {
			t.Fatal("rule 2: a Reply that is turned turns the draft")
		}
	}
	_, told, _ := Look(d, 1, 21)
	mustKeep(t, d, 1, 22, fullReply())
	mustTell(t, s.Apply(2, d.Changes()), api.OK, "6.3: Apply")
	mustTell(t, d.Back(0), api.OK, "13.2: Back")
	if spelled(told) != spelled(api.Reply{Rows: rows{{num(21)}}}) {
		t.Fatalf("rule 2: a Reply was turned into %s", spelled(told))
	}
}
