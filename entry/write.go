package entry

import (
	"headland/api"
	"headland/schema"
	"headland/wire"
)

// An operation is held inside as one of these, as an interface value: each has other fields to lay down.
type (
	creation api.Op
	laying   api.Op
	naming   api.Op
	search   api.Op
)

// hold is nil for a kind that there is not.
func hold(o api.Op) any {
	switch o.Kind {
	case api.Create:
		return creation(o)
	case api.Insert, api.Update:
		return laying(o)
	case api.Delete, api.Get:
		return naming(o)
	case api.Scan:
		return search(o)
	}
	return nil
}

// laidDown is the bytes of an entry of which Right was asked ahead. Of an operation that Right would refuse, since it has no kind, an assertion panics: nobody is told so but by ErrArg.
func laidDown(e api.Entry) (b []byte, refused api.Errno) {
	defer func() {
		if recover() != nil {
			b, refused = nil, api.ErrArg
		}
	}()
	var w writer
	w.numbers(e.Kind, e.Server, e.N, len(e.Commands))
	for _, c := range e.Commands {
		w.numbers(c.Session, c.Seq, len(c.Ops))
		for _, o := range c.Ops {
			w.numbers(o.Kind)
			w.fields(hold(o))
		}
	}
	return w.b, api.OK
}

type writer struct{ b []byte }

func (w *writer) numbers(l ...int) {
	for _, n := range l {
		w.b = append(w.b, wire.Uint(n)...)
	}
}

func (w *writer) part(b []byte) { w.b = append(w.b, wire.Bytes(b)...) }

// fields lays down what an operation has beside its kind.
func (w *writer) fields(h any) {
	if c, ok := h.(creation); ok {
		b, _ := schema.Encode(c.Schema)
		w.part(b)
		return
	}
	if l, ok := h.(laying); ok {
		w.part([]byte(l.Table))
		w.row(l.Row...)
		return
	}
	if n, ok := h.(naming); ok {
		w.part([]byte(n.Table))
		w.row(n.Key)
		return
	}
	// There is no other kind that is right.
	s := h.(search)
	w.part([]byte(s.Table))
	w.numbers(s.Column, s.Limit)
	w.row(s.Lo)
	w.row(s.Hi)
}

// row lays down values that are right, so that no row of them is refused.
func (w *writer) row(l ...api.Value) {
	b, _ := schema.EncodeRow(l)
	w.part(b)
}
