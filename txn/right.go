package txn

import (
	"slices"

	"headland/api"
	"headland/keys"
	"headland/schema"
)

func isWrong(o api.Op) bool { return !isRight(o) }

// isRight is whether an operation is of a kind, has what its kind has, and nothing else.
func isRight(o api.Op) bool {
	switch o.Kind {
	case api.Create:
		return schema.Right(o.Schema) == api.OK && hasOnly(o, api.Op{Schema: o.Schema})
	case api.Insert, api.Update:
		return schema.Name(o.Table) && areRight(o.Row...) && hasOnly(o, api.Op{Table: o.Table, Row: o.Row})
	case api.Delete, api.Get:
		return schema.Name(o.Table) && areRight(o.Key) && hasOnly(o, api.Op{Table: o.Table, Key: o.Key})
	case api.Scan:
		return schema.Name(o.Table) && isSpan(o) && hasOnly(o, api.Op{Table: o.Table, Column: o.Column, Lo: o.Lo, Hi: o.Hi, Limit: o.Limit})
	}
	return false
}

func areRight(l ...api.Value) bool {
	return len(l) <= api.MaxColumns && !slices.ContainsFunc(l, isWrongValue)
}

// isWrongValue counts runes of all values: one that is keys.Right and no text has none.
func isWrongValue(v api.Value) bool {
	return keys.Right(v) != api.OK || keys.Runes(v.S) > api.MaxText
}

// isSpan is whether a Scan's column, bounds and limit are such as a table may have. Which columns its table has, only Run knows.
func isSpan(o api.Op) bool {
	return 0 <= o.Column && o.Column < api.MaxColumns && areRight(o.Lo, o.Hi) && 1 <= o.Limit && o.Limit <= api.MaxTold
}

// hasOnly is whether an operation has just the fields that its part has.
func hasOnly(o, part api.Op) bool {
	return o.Table == part.Table && schema.Same(o.Schema, part.Schema) && schema.SameRow(o.Row, part.Row) &&
		o.Key == part.Key && o.Column == part.Column && o.Lo == part.Lo && o.Hi == part.Hi && o.Limit == part.Limit
}
