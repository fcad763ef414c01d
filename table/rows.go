package table

import (
	"bytes"
	"slices"

	"headland/api"
	"headland/schema"
)

const above = 0xFF // no value's bytes begin with it

// get is the row with a first value.
func (t table) get(first value) (row, api.Errno) {
	b, is, e := t.draft.Get(rowSpace, t.rowKey(first))
	switch {
	case e != api.OK:
		return row{}, e
	case !is:
		return row{}, api.ErrNone
	}
	return t.read(b)
}

// read is a row that was laid down; ErrCorrupt, if no row of this table was laid down so.
func (t table) read(b []byte) (row, api.Errno) {
	plain, e := schema.DecodeRow(b)
	if e != api.OK || schema.Fits(t.schema, plain) != api.OK {
		return row{}, api.ErrCorrupt
	}
	return holdRow(plain), api.OK
}

func (t table) count() (int, api.Errno) {
	l, e := t.draft.Range(rowSpace, t.at(0), t.at(1), api.MaxRows)
	return len(l), e
}

// mayAdd is by what a row more is refused.
func (t table) mayAdd(r row) api.Errno {
	switch _, e := t.get(r.first()); e {
	case api.OK:
		return api.ErrKey
	case api.ErrNone:
	default:
		return e
	}
	n, e := t.count()
	switch {
	case e != api.OK:
		return e
	case n >= api.MaxRows:
		return api.ErrMany
	}
	return t.mayStand(r)
}

// mayStand is ErrUnique, if another row has a value that must be one of a kind.
func (t table) mayStand(r row) api.Errno {
	for _, x := range t.schema.Indexes {
		v, is := r.values[x.Column].(something)
		if !is || !x.Unique {
			continue
		}
		l, e := t.draft.Range(rowSpace, t.at(x.Column, v), t.at(x.Column, v, []byte{above}), 1)
		switch {
		case e != api.OK:
			return e
		case len(l) > 0 && !bytes.Equal(l[0].Key, t.indexKey(x.Column, r)):
			return api.ErrUnique
		}
	}
	return api.OK
}

// hasOrder is whether rows stand by a column's values.
func (t table) hasOrder(column int) bool {
	over := func(x api.Index) bool { return x.Column == column }
	return column == 0 || slices.ContainsFunc(t.schema.Indexes, over)
}

// scan is the first rows by a column from lo on and below hi.
func (t table) scan(column int, lo, hi value, limit int) ([][]api.Value, api.Errno) {
	l, e := t.draft.Range(rowSpace, t.at(column, lo.bytes()), t.end(column, hi), limit)
	if e != api.OK {
		return nil, e
	}
	rows := make([][]api.Value, len(l))
	for i, p := range l {
		r, e := t.read(p.Value)
		if e != api.OK {
			return nil, e
		}
		rows[i] = r.plain
	}
	return rows, api.OK
}

// end is what all keys of a column are below whose values are below hi.
func (t table) end(column int, hi value) []byte {
	if v, is := hi.(something); is {
		return t.at(column, v)
	}
	return t.at(column + 1)
}
