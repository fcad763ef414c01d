package entry

import (
	"headland/api"
	"headland/schema"
	"headland/wire"
)

// mostPart is how many bytes a row has at most; a schema and a name have fewer.
const mostPart = 120

// reader reads what a writer laid down. It refuses nothing: what can't be read is zero, and Decode and DecodeReply hold all of it against the bytes.
type reader struct {
	b  []byte
	at int
}

func (r *reader) entry() api.Entry {
	e := api.Entry{Kind: r.number(), Server: r.number(), N: r.number()}
	for range r.count(api.MaxCommands) {
		e.Commands = append(e.Commands, r.command())
	}
	return e
}

func (r *reader) command() api.Command {
	c := api.Command{Session: r.number(), Seq: r.number()}
	for range r.count(api.MaxOps) {
		c.Ops = append(c.Ops, r.op())
	}
	return c
}

func (r *reader) op() api.Op {
	kind := r.number()
	switch kind {
	case api.Create:
		return api.Op{Kind: kind, Schema: r.schema()}
	case api.Insert, api.Update:
		return api.Op{Kind: kind, Table: r.name(), Row: r.row()}
	case api.Delete, api.Get:
		return api.Op{Kind: kind, Table: r.name(), Key: r.value()}
	case api.Scan:
		return api.Op{Kind: kind, Table: r.name(), Column: r.number(), Limit: r.number(), Lo: r.value(), Hi: r.value()}
	}
	return api.Op{}
}

func (r *reader) reply() api.Reply {
	told := api.Reply{Err: api.Errno(r.number()), At: r.number()}
	for range r.count(mostRows) {
		told.Rows = append(told.Rows, r.row())
	}
	return told
}

func (r *reader) number() int {
	n, next, _ := wire.ReadUint(r.b, r.at)
	r.at = next
	return n
}

// count is bounded, so that bytes which say that there are very many are read to an end.
func (r *reader) count(most int) int { return min(r.number(), most) }

func (r *reader) part() []byte {
	b, next, _ := wire.ReadBytes(r.b, r.at, mostPart)
	r.at = next
	return b
}

func (r *reader) name() string { return string(r.part()) }

func (r *reader) schema() api.Schema {
	s, _ := schema.Decode(r.part())
	return s
}

func (r *reader) row() []api.Value {
	row, _ := schema.DecodeRow(r.part())
	return row
}

// value is a row's first one, since one value is laid down as a row of one.
func (r *reader) value() api.Value { return append(r.row(), api.Value{})[0] }
