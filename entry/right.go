package entry

import (
	"slices"

	"headland/api"
	"headland/schema"
	"headland/txn"
)

const (
	greatest    = 1<<31 - 1 // Seq, and a position
	lastVersion = 2
	greatestErr = 1 << 16
	mostRows    = api.MaxOps * api.MaxTold
)

func within(n, least, most int) bool { return least <= n && n <= most }

func isWrong(c api.Command) bool {
	return !within(c.Session, 0, api.MaxSessions-1) || !within(c.Seq, 1, greatest) || !txn.Right(c.Ops)
}

// hasItsN is whether an entry that is no batch has an N of its kind, which no N is of a kind that there is not.
func hasItsN(e api.Entry) bool {
	switch e.Kind {
	case api.EView, api.EEnd:
		return within(e.N, 0, greatest)
	case api.ELease:
		return within(e.N, 1, api.MaxLease)
	case api.EUpgrade:
		return within(e.N, 1, lastVersion)
	}
	return false
}

func sameCommand(a, b api.Command) bool {
	return a.Session == b.Session && a.Seq == b.Seq && slices.EqualFunc(a.Ops, b.Ops, sameOp)
}

// sameOp looks at all fields, also at those that its kind does not have.
func sameOp(a, b api.Op) bool {
	return a.Kind == b.Kind && a.Table == b.Table && schema.Same(a.Schema, b.Schema) && schema.SameRow(a.Row, b.Row) &&
		a.Key == b.Key && a.Column == b.Column && a.Lo == b.Lo && a.Hi == b.Hi && a.Limit == b.Limit
}
