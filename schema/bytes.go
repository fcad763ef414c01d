package schema

import (
	"bytes"
	"slices"

	"headland/api"
	"headland/keys"
	"headland/wire"
)

// Encode is a schema's bytes.
func Encode(s api.Schema) ([]byte, api.Errno) {
	if e := Right(s); e != api.OK {
		return nil, e
	}
	b := wire.Bytes([]byte(s.Name))
	b = append(b, wire.Uint(len(s.Columns))...)
	for _, c := range s.Columns {
		b = append(b, wire.Bytes([]byte(c.Name))...)
		b = append(b, wire.Uint(c.Kind)...)
		b = append(b, wire.Uint(c.Max)...)
	}
	b = append(b, wire.Uint(len(s.Indexes))...)
	for _, x := range s.Indexes {
		b = append(b, wire.Uint(x.Column)...)
		b = append(b, wire.Uint(bit(x.Unique))...)
	}
	return b, api.OK
}

func bit(is bool) int {
	if is {
		return 1
	}
	return 0
}

// Decode reads them.
func Decode(b []byte) (api.Schema, api.Errno) {
	r := reader{b: b}
	s := r.schema()
	// Whatever was read of bytes that were not encoded so, they are not its bytes.
	if again, e := Encode(s); e != api.OK || !bytes.Equal(again, b) {
		return api.Schema{}, api.ErrForm
	}
	return s, api.OK
}

// reader reads what Encode laid down. It refuses nothing: what can't be read is zero, and Decode holds all of it against the bytes.
type reader struct {
	b  []byte
	at int
}

func (r *reader) schema() api.Schema {
	s := api.Schema{Name: r.name()}
	s.Columns = make([]api.Column, r.count(api.MaxColumns))
	for i := range s.Columns {
		s.Columns[i] = api.Column{Name: r.name(), Kind: r.number(), Max: r.number()}
	}
	s.Indexes = make([]api.Index, r.count(mostIndexes))
	for i := range s.Indexes {
		s.Indexes[i] = api.Index{Column: r.number(), Unique: r.number() == bit(true)}
	}
	return s
}

func (r *reader) number() int {
	n, next, _ := wire.ReadUint(r.b, r.at)
	r.at = next
	return n
}

// count is bounded, since room is made for as many ahead of looking whether they are there.
func (r *reader) count(most int) int { return min(r.number(), most) }

func (r *reader) name() string {
	s, next, _ := wire.ReadBytes(r.b, r.at, mostLetters)
	r.at = next
	return string(s)
}

// EncodeRow is a row's bytes.
func EncodeRow(row []api.Value) ([]byte, api.Errno) {
	if len(row) > api.MaxColumns {
		return nil, api.ErrMany
	}
	key, e := keys.Key(row...)
	if e != api.OK || slices.ContainsFunc(row, isLong) {
		return nil, api.ErrRow
	}
	// How many there are stands ahead, so that no row's bytes begin another one's.
	return append(wire.Uint(len(row)), key...), api.OK
}

func isLong(v api.Value) bool { return runes(v.S) > api.MaxText }

// DecodeRow reads them.
func DecodeRow(b []byte) ([]api.Value, api.Errno) {
	_, at, e := wire.ReadUint(b, 0)
	if e != api.OK {
		return nil, api.ErrForm
	}
	row, e := keys.Read(b[at:])
	if e != api.OK {
		return nil, api.ErrForm
	}
	if again, e := EncodeRow(row); e != api.OK || !bytes.Equal(again, b) {
		return nil, api.ErrForm
	}
	return row, api.OK
}
