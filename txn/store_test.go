package txn

import (
	"fmt"
	"testing"

	"headland/api"
	"headland/disk"
	"headland/draft"
)

// asking are operations that are right, of each kind, taken or refused by a table.
func asking() ops {
	l := append(some(), insert("t", num(1), none()), insert("t"), remove("t", num(99)), create(little("t")), scan("t", 2, none(), none(), 1), all("nosuch"))
	return append(l, ofKinds()...)
}

// TestADeadStore: each operation is refused by the draft, whatever its table would refuse; there is no Reply, and the changes are as they were.
func TestADeadStore(t *testing.T) {
	d, _, x := filled(t)
	x.Cut(disk.Loss{Torn: -1})
	for range 2 {
		for version := 1; version <= 2; version++ {
			for _, o := range asking() {
				for _, l := range []ops{{o}, {o, all("t")}, {insert("t", num(99), none()), o, ask("t", num(99))}} {
					mustRefuse(t, d, l, version, api.ErrDown, fmt.Sprint("over a dead store: ", l))
				}
			}
			for _, o := range wrongOps() {
				mustRefuse(t, d, ops{o}, version, api.ErrArg, "over a dead store, of what is not Right")
			}
			// No operation asks the draft.
			if r, e := Run(d, nil, version); e != api.OK || spelled(r) != spelled(api.Reply{}) {
				t.Errorf("16.2: Run of none over a dead store: %s, error %d", spelled(r), e)
			}
		}
		mustRefuse(t, d, ops{all("t")}, 3, api.ErrArg, "over a dead store, of no version")
		x.Restart()
	}
}

// TestAPageThatDoesNotRead: a Run that meets it is refused by the draft, and behind it all is as it was, whatever was done ahead of meeting it.
func TestAPageThatDoesNotRead(t *testing.T) {
	d, s, x := filled(t)
	told, met := whole(t, d), map[string]int{}
	for id := 2; id < x.Blocks(); id++ {
		x.Flip(id, 99)
		if s.Check() == api.ErrCorrupt {
			meet(t, d, met)
		}
		x.Flip(id, 99)
		if whole(t, d) != told {
			t.Fatal("16.4: behind ErrCorrupt, turned back, the draft tells something else")
		}
	}
	for kind := 1; kind <= 6; kind++ {
		if met[fmt.Sprint(kind, " at once")] == 0 {
			t.Errorf("16.2: kind %d met no page that does not read", kind)
		}
		// What a Create asks for, all that changes a table has asked for too.
		if kind != api.Create && met[fmt.Sprint(kind, " behind changes")] == 0 {
			t.Errorf("16.2: kind %d met no page that does not read behind changes", kind)
		}
	}
}

// meet runs operations, alone and behind others, some of which meet the page, and counts those.
func meet(t *testing.T, d *draft.Draft, met map[string]int) {
	t.Helper()
	mark, was := d.Mark(), changed(d)
	for _, o := range asking() {
		for _, ahead := range []ops{nil, {insert("t", num(99), word("zz"))}, {update("texts", word("a"), none(), none())}, {create(little("u")), remove("t", num(7))}, {ask("t", num(1)), ask("t", num(8))}} {
			_, aheadErr := oneByOne(d, ahead, called(1))
			d.Back(mark)
			l := append(ahead, o)
			want, wantErr := oneByOne(d, l, called(1))
			d.Back(mark)
			r, e := Run(d, l, 1)
			if e != wantErr || spelled(r) != spelled(want) {
				t.Fatalf("16.2: Run of %v: %s, error %d, not %s, error %d", l, spelled(r), e, spelled(want), wantErr)
			}
			if (e != api.OK || r.Err != api.OK) && changed(d) != was {
				t.Fatalf("16.2: Run of %v: %s, error %d, but the draft is changed", l, spelled(r), e)
			}
			switch {
			case e == api.ErrCorrupt && len(ahead) == 0:
				met[fmt.Sprint(o.Kind, " at once")]++
			case e == api.ErrCorrupt && aheadErr == api.OK:
				met[fmt.Sprint(o.Kind, " behind changes")]++
			}
			d.Back(mark)
		}
	}
}
