package table

import (
	"bytes"

	"headland/api"
	"headland/draft"
	"headland/schema"
)

const mostKey = 60 // of a draft's pair

// at is where the rows stand by a column (0: by their first values) from some values' bytes on. What a draft would refuse as too long is cut: it is longer than all keys that rows have (58 bytes), so among them it stays where it was.
func (t table) at(column int, parts ...[]byte) []byte {
	b := append([]byte{t.number, byte(column)}, bytes.Join(parts, nil)...)
	return b[:min(len(b), mostKey)]
}

func (t table) rowKey(first value) []byte { return t.at(0, first.bytes()) }

// indexKey has the first value too, since rows may share what stands ahead of it.
func (t table) indexKey(column int, r row) []byte {
	return t.at(column, r.values[column].bytes(), r.first().bytes())
}

// changes lay down a row, or take it away: the whole of it by its first value, and by each index once more, so that it is read there without a look elsewhere.
func (t table) changes(r row, gone bool) []api.Change {
	all := [][]byte{t.rowKey(r.first())}
	for _, x := range t.schema.Indexes {
		all = append(all, t.indexKey(x.Column, r))
	}
	b, _ := schema.EncodeRow(r.plain)
	l := make([]api.Change, len(all))
	for i, key := range all {
		l[i] = api.Change{Pair: api.Pair{Space: rowSpace, Key: key, Value: b}, Gone: gone}
	}
	return l
}

// makeAll makes all changes, or none.
func makeAll(d *draft.Draft, l []api.Change) api.Errno {
	mark := d.Mark()
	for _, c := range l {
		if e := makeOne(d, c); e != api.OK {
			d.Back(mark)
			return e
		}
	}
	return api.OK
}

func makeOne(d *draft.Draft, c api.Change) api.Errno {
	if c.Gone {
		return d.Delete(c.Space, c.Key)
	}
	return d.Put(c.Space, c.Key, c.Value)
}
