package table

import (
	"headland/api"
	"headland/keys"
)

// value is a row's value, or a Scan's bound.
type value interface {
	bytes() []byte // they keep the values' order
}

// Nothing is like no other row's value, and as a Scan's end it is above all; all else is something.
type (
	nothing   []byte
	something []byte
)

func (n nothing) bytes() []byte { return n }

func (s something) bytes() []byte { return s }

// hold takes a value that is Right.
func hold(v api.Value) value {
	b, _ := keys.Key(v)
	if v.Kind == api.Nothing {
		return nothing(b)
	}
	return something(b)
}

// row is a row that fits its table.
type row struct {
	plain  []api.Value
	values []value
}

func holdRow(plain []api.Value) row {
	r := row{plain: plain}
	for _, v := range plain {
		r.values = append(r.values, hold(v))
	}
	return r
}

func (r row) first() value { return r.values[0] }
