package table

import (
	"fmt"
	"maps"
	"math/rand"
	"slices"
	"strings"
	"testing"

	"headland/api"
	"headland/draft"
	"headland/keys"
	"headland/local"
	"headland/schema"
)

// model is tables as plain lists of rows, by the chapter's words.
type model map[string]plainTable

type plainTable struct {
	schema api.Schema
	rows   []values
}

func (m model) create(s api.Schema) api.Errno {
	_, is := m[s.Name]
	switch {
	case schema.Right(s) != api.OK:
		return api.ErrSchema
	case is:
		return api.ErrTable
	case len(m) == 4:
		return api.ErrMany
	}
	m[s.Name] = plainTable{schema: s}
	return api.OK
}

// place is where the row with a first value stands; -1, if there is none.
func (p plainTable) place(first api.Value) int {
	return slices.IndexFunc(p.rows, func(l values) bool { return l[0] == first })
}

func (p plainTable) isTwice(row values) bool {
	for _, x := range p.schema.Indexes {
		for _, l := range p.rows {
			if v := row[x.Column]; x.Unique && v != none() && l[0] != row[0] && l[x.Column] == v {
				return true
			}
		}
	}
	return false
}

func (m model) insert(name string, row values) api.Errno {
	p, is := m[name]
	switch {
	case !is:
		return api.ErrTable
	case schema.Fits(p.schema, row) != api.OK:
		return api.ErrRow
	case p.place(row[0]) >= 0:
		return api.ErrKey
	case len(p.rows) == 64:
		return api.ErrMany
	case p.isTwice(row):
		return api.ErrUnique
	}
	p.rows = append(slices.Clone(p.rows), slices.Clone(row))
	m[name] = p
	return api.OK
}

func (m model) update(name string, row values) api.Errno {
	p, is := m[name]
	switch {
	case !is:
		return api.ErrTable
	case schema.Fits(p.schema, row) != api.OK:
		return api.ErrRow
	case p.place(row[0]) < 0:
		return api.ErrNone
	case p.isTwice(row):
		return api.ErrUnique
	}
	p.rows = slices.Clone(p.rows)
	p.rows[p.place(row[0])] = slices.Clone(row)
	m[name] = p
	return api.OK
}

// find is of Delete and Get.
func (m model) find(name string, key api.Value) (values, api.Errno) {
	p, is := m[name]
	switch {
	case !is:
		return nil, api.ErrTable
	case keys.Right(key) != api.OK:
		return nil, api.ErrRow
	case p.place(key) < 0:
		return nil, api.ErrNone
	}
	return p.rows[p.place(key)], api.OK
}

func (m model) delete(name string, key api.Value) api.Errno {
	if _, e := m.find(name, key); e != api.OK {
		return e
	}
	p := m[name]
	at := p.place(key)
	p.rows = slices.Concat(p.rows[:at], p.rows[at+1:])
	m[name] = p
	return api.OK
}

func (m model) scan(name string, column int, lo, hi api.Value, limit int) ([]values, api.Errno) {
	p, is := m[name]
	over := func(x api.Index) bool { return x.Column == column }
	switch {
	case !is:
		return nil, api.ErrTable
	case column != 0 && !slices.ContainsFunc(p.schema.Indexes, over):
		return nil, api.ErrColumn
	case keys.Right(lo) != api.OK || keys.Right(hi) != api.OK:
		return nil, api.ErrRow
	case limit < 1 || limit > 4:
		return nil, api.ErrArg
	}
	return plainScan(p.rows, column, lo, hi, limit), api.OK
}

// play is a draft beside its model.
type play struct {
	t     *testing.T
	r     *rand.Rand
	s     *local.Store
	d     *draft.Draft
	m     model
	marks map[int]model // what the model was at some marks
	count map[string]int
}

func newPlay(t *testing.T, seed int64) *play {
	s, _ := newStore(t)
	return &play{t: t, r: rand.New(rand.NewSource(seed)), s: s, d: over(t, s), m: model{}, marks: map[int]model{}, count: map[string]int{}}
}

func one[T any](r *rand.Rand, l ...T) T { return l[r.Intn(len(l))] }

func (p *play) name() string {
	if p.r.Intn(30) == 0 {
		return one(p.r, noNames()...)
	}
	return one(p.r, "t", "mixed", "zzzzzzzz", "sharing", "bare", "t", "mixed", "sharing")
}

func (p *play) schema() api.Schema {
	if p.r.Intn(4) == 0 {
		return one(p.r, wrongSchemas()...)
	}
	s := one(p.r, little(), mixed(), greatest(), sharing(), bare())
	if p.r.Intn(3) == 0 {
		s.Name = p.name()
	}
	return s
}

// value is one of few, so that rows come to have the same; of a column's Kind in most cases.
func (p *play) value(kind int) api.Value {
	switch p.r.Intn(40) {
	case 0:
		return one(p.r, wrongValues()...)
	case 1:
		return one(p.r, bounds()...)
	case 2, 3, 4, 5, 6, 7:
		return none()
	}
	switch kind {
	case api.Int:
		return num(p.r.Intn(9) - 2)
	case api.Bool:
		return truth(p.r.Intn(2))
	}
	return word(one(p.r, "", "a", "ä", "b", "zz", "öö", "€", "aa"))
}

func (p *play) row(name string) values {
	s := p.m[name].schema
	if len(s.Columns) == 0 {
		s = little()
	}
	var l values
	for i, c := range s.Columns {
		v := p.value(c.Kind)
		for i == 0 && v == none() && p.r.Intn(9) > 0 {
			v = p.value(c.Kind)
		}
		l = append(l, v)
	}
	if p.r.Intn(60) == 0 {
		l = append(l, none())
	}
	return l
}

func (p *play) key(name string) api.Value { return p.row(name)[0] }

// must makes a call that tells what the model tells, and changes nothing, if it is refused.
func (p *play) must(what string, want api.Errno, call func() api.Errno) {
	p.t.Helper()
	p.count[fmt.Sprint(what, " ", want)]++
	if want != api.OK {
		mustRefuse(p.t, p.d, want, what, call)
		return
	}
	mustTell(p.t, call(), want, "15: "+what)
}

func (p *play) step() {
	p.t.Helper()
	name := p.name()
	switch row := p.row(name); p.r.Intn(12) {
	case 0:
		s := p.schema()
		p.must("Create", p.m.create(s), func() api.Errno { return Create(p.d, s) })
	case 1, 2, 3, 4, 5:
		p.must("Insert", p.m.insert(name, row), func() api.Errno { return Insert(p.d, name, row) })
	case 6, 7, 8:
		p.must("Update", p.m.update(name, row), func() api.Errno { return Update(p.d, name, row) })
	case 9:
		key := p.key(name)
		p.must("Delete", p.m.delete(name, key), func() api.Errno { return Delete(p.d, name, key) })
	case 10:
		p.mark()
	default:
		p.ask(name)
	}
}

// mark keeps a mark, goes back to one, or lets the store have what was done.
func (p *play) mark() {
	p.t.Helper()
	switch p.r.Intn(8) {
	case 0:
		mustTell(p.t, p.s.Apply(p.s.Pos()+1, p.d.Changes()), api.OK, "6.3: Apply")
		p.d, p.marks = over(p.t, p.s), map[int]model{}
	case 1, 2:
		if len(p.marks) == 0 {
			return
		}
		mark := one(p.r, slices.Sorted(maps.Keys(p.marks))...)
		mustTell(p.t, p.d.Back(mark), api.OK, "13.2: Back")
		p.m = maps.Clone(p.marks[mark])
		maps.DeleteFunc(p.marks, func(other int, _ model) bool { return other > mark })
	default:
		p.marks[p.d.Mark()] = maps.Clone(p.m)
	}
}

func (p *play) ask(name string) {
	p.t.Helper()
	key, lo, hi := p.key(name), p.value(1+p.r.Intn(3)), p.value(1+p.r.Intn(3))
	want, e := p.m.find(name, key)
	p.must("Get", e, func() api.Errno {
		got, e := Get(p.d, name, key)
		if !slices.Equal(got, want) {
			p.t.Fatalf("15.2: Get: %s, not %s", spelledRow(got), spelledRow(want))
		}
		return e
	})
	column, limit := p.r.Intn(5)-1, p.r.Intn(6)
	rows, e := p.m.scan(name, column, lo, hi, limit)
	p.must("Scan", e, func() api.Errno {
		got, e := Scan(p.d, name, column, lo, hi, limit)
		if spelled(got) != spelled(rows) {
			p.t.Fatalf("15.3: Scan: %s, not %s", spelled(got), spelled(rows))
		}
		return e
	})
}

// mustAgree holds all that is told against the model.
func (p *play) mustAgree() {
	p.t.Helper()
	mustName(p.t, p.d, slices.Sorted(maps.Keys(p.m))...)
	for name, own := range p.m {
		if s, e := Schema(p.d, name); e != api.OK || !alike(s, own.schema) {
			p.t.Fatalf("15.1: Schema of %s: %v, error %d", name, s, e)
		}
		mustCount(p.t, p.d, name, len(own.rows))
		sorted := plainScan(own.rows, 0, none(), none(), len(own.rows))
		if got := spelled(allRows(p.t, p.d, name)); got != spelled(sorted) {
			p.t.Fatalf("15.4: %s: %s, not %s", name, got, spelled(sorted))
		}
		for _, x := range own.schema.Indexes {
			p.mustBeIndexed(name, x, own.rows)
		}
	}
}

// mustBeIndexed: an index tells the same rows as a look through all, and if it is Unique, no value twice.
func (p *play) mustBeIndexed(name string, x api.Index, rows []values) {
	p.t.Helper()
	seen := map[api.Value]int{}
	for _, l := range rows {
		v := l[x.Column]
		if seen[v]++; x.Unique && v != none() && seen[v] > 1 {
			p.t.Fatalf("15.4: %s has %s twice", name, spelledRow(values{v}))
		}
	}
	for _, v := range append(slices.Collect(maps.Keys(seen)), none(), truth(1), num(3), word("b")) {
		mustScan(p.t, p.d, name, x.Column, v, none(), 4, spelled(plainScan(rows, x.Column, v, none(), 4)))
		mustScan(p.t, p.d, name, x.Column, none(), v, 4, spelled(plainScan(rows, x.Column, none(), v, 4)))
	}
}

// TestTablesArePlainLists: whatever comes, a draft's tables are what plain lists of rows are (15.1 to 15.4).
func TestTablesArePlainLists(t *testing.T) {
	count := map[string]int{}
	for seed := range int64(10) {
		p := newPlay(t, seed)
		for i := range 400 {
			p.step()
			if i%10 == 0 {
				p.mustAgree()
			}
		}
		p.mustAgree()
		for what, n := range p.count {
			count[what] += n
		}
	}
	for _, what := range strings.Split("Create 0,Create 2,Create 60,Create 61,Insert 0,Insert 60,Insert 62,Insert 63,Insert 64,Update 0,Update 4,Update 60,Update 62,Update 64,Delete 0,Delete 4,Delete 60,Delete 62,Get 0,Get 4,Get 60,Get 62,Scan 0,Scan 1,Scan 60,Scan 62,Scan 65", ",") {
		if count[what] < 5 {
			t.Errorf("15: too few of %s: %d", what, count[what])
		}
	}
}
