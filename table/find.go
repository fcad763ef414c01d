package table

import (
	"headland/api"
	"headland/draft"
	"headland/keys"
	"headland/schema"
)

// The spaces of the store in which tables stand: what each one is, by its name, and all their rows.
const (
	tableSpace = iota
	rowSpace
)

// table is one of a draft's tables. Its number is how many there were ahead of it: two values and a name would be too long for a pair's key.
type table struct {
	draft  *draft.Draft
	number byte
	schema api.Schema
}

// find is the table with a name.
func find(d *draft.Draft, name string) (table, api.Errno) {
	switch {
	case d == nil:
		return table{}, api.ErrArg
	case !schema.Name(name):
		// No table has it, and a draft would refuse it as a key.
		return table{}, api.ErrTable
	}
	b, is, e := d.Get(tableSpace, []byte(name))
	switch {
	case e != api.OK:
		return table{}, e
	case !is:
		return table{}, api.ErrTable
	case len(b) == 0:
		return table{}, api.ErrCorrupt
	}
	s, e := schema.Decode(b[1:])
	if e != api.OK || s.Name != name {
		return table{}, api.ErrCorrupt
	}
	return table{draft: d, number: b[0], schema: s}, api.OK
}

// add makes a table whose name is free, of a schema's bytes.
func add(d *draft.Draft, name string, b []byte) api.Errno {
	names, e := Names(d)
	switch {
	case e != api.OK:
		return e
	case len(names) >= api.MaxTables:
		return api.ErrMany
	}
	return d.Put(tableSpace, []byte(name), append([]byte{byte(len(names))}, b...))
}

// fitting is a table and a row that fits it.
func fitting(d *draft.Draft, name string, plain []api.Value) (table, row, api.Errno) {
	t, e := find(d, name)
	if e != api.OK {
		return table{}, row{}, e
	}
	if e := schema.Fits(t.schema, plain); e != api.OK {
		return table{}, row{}, e
	}
	return t, holdRow(plain), api.OK
}

// findRow is a table and the row that it has with a first value.
func findRow(d *draft.Draft, name string, key api.Value) (table, row, api.Errno) {
	t, e := find(d, name)
	switch {
	case e != api.OK:
		return table{}, row{}, e
	case keys.Right(key) != api.OK:
		return table{}, row{}, api.ErrRow
	}
	r, e := t.get(hold(key))
	return t, r, e
}
