package txn

import (
	"headland/api"
	"headland/draft"
	"headland/schema"
	"headland/table"
)

// doAll does operations that are right one behind the other, up to the first that is refused. A table's refusal is the Reply, since it hangs on what is asked and what stands there alone; the draft's own hangs on its disk, so it is told without a Reply.
func doAll(d *draft.Draft, l []api.Op, version int) (api.Reply, api.Errno) {
	var rows [][]api.Value
	for at, o := range l {
		if version == folding {
			o = folded(o)
		}
		switch told, e := do(d, o); e {
		case api.OK:
			rows = append(rows, told...)
		case api.ErrDown, api.ErrCorrupt:
			return api.Reply{}, e
		default:
			return api.Reply{Err: e, At: at}, api.OK
		}
	}
	return api.Reply{Rows: rows}, api.OK
}

// folded makes the letters small of all values that an operation has. One that is right stays so, since no text gets more runes.
func folded(o api.Op) api.Op {
	o.Row = schema.Fold(o.Schema, o.Row)
	l := schema.Fold(o.Schema, []api.Value{o.Key, o.Lo, o.Hi})
	o.Key, o.Lo, o.Hi = l[0], l[1], l[2]
	return o
}

// do is the rows that an operation tells, or by what it is refused.
func do(d *draft.Draft, o api.Op) ([][]api.Value, api.Errno) {
	ask := table.Insert
	switch o.Kind {
	case api.Create:
		return nil, table.Create(d, o.Schema)
	case api.Update:
		ask = table.Update
		fallthrough
	case api.Insert:
		return nil, ask(d, o.Table, o.Row)
	case api.Delete:
		return nil, table.Delete(d, o.Table, o.Key)
	case api.Get:
		return get(d, o)
	}
	return table.Scan(d, o.Table, o.Column, o.Lo, o.Hi, o.Limit)
}

// get is a row alone.
func get(d *draft.Draft, o api.Op) ([][]api.Value, api.Errno) {
	row, e := table.Get(d, o.Table, o.Key)
	if e != api.OK {
		return nil, e
	}
	return [][]api.Value{row}, api.OK
}
