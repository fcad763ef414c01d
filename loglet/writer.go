package loglet

import (
	"bytes"

	"headland/api"
	"headland/net"
)

// Writer writes a loglet.
type Writer struct {
	net   *net.Net
	log   int
	row   [][]byte // what it ever wrote: a value whose Append was refused may be at a node all the same, so it stays
	known []int    // by nodes: how many slots it is known to have
	done  int
	over  bool
}

// New is a loglet's writer.
func New(n *net.Net, log int) (*Writer, api.Errno) {
	if !right(n, log) {
		return nil, api.ErrArg
	}
	return &Writer{net: n, log: log, known: make([]int, n.Nodes())}, api.OK
}

// Log is which loglet.
func (w *Writer) Log() int { return w.log }

// Append writes one more.
func (w *Writer) Append(v []byte) (int, api.Errno) {
	if len(v) > api.MaxValue {
		return 0, api.ErrLong
	}
	for _, call := range []func() api.Errno{w.mayWrite, w.Push, w.hasRoom} {
		if e := call(); e != api.OK {
			return 0, e
		}
	}
	w.row = append(w.row, bytes.Clone(v))
	if e := w.Push(); e != api.OK {
		return 0, e
	}
	return len(w.row) - 1, api.OK
}

// Push brings the row to the nodes.
func (w *Writer) Push() api.Errno {
	if w.done == len(w.row) {
		return api.OK
	}
	if w.over {
		return api.ErrSealed
	}
	whole := 0
	for to := range w.known {
		w.bring(to)
		if w.known[to] == len(w.row) {
			whole++
		}
	}
	switch {
	case whole >= w.net.Major():
		w.done = len(w.row)
		return api.OK
	case w.over:
		return api.ErrSealed
	}
	return api.ErrTimeout
}

// Done is how much is at a majority.
func (w *Writer) Done() int { return w.done }

// Len is how long the row is.
func (w *Writer) Len() int { return len(w.row) }

// Over is whether it met a sealed node.
func (w *Writer) Over() bool { return w.over }

func (w *Writer) mayWrite() api.Errno {
	if w.over {
		return api.ErrSealed
	}
	return api.OK
}

func (w *Writer) hasRoom() api.Errno {
	if len(w.row) == api.MaxSlots {
		return api.ErrMany
	}
	return api.OK
}

// bring brings a node what it is not known to have, slot by slot, as long as it gets on.
func (w *Writer) bring(to int) {
	for w.known[to] < len(w.row) {
		at := w.known[to]
		a, ok := w.net.Call(to, api.Request{Kind: api.RWrite, Log: w.log, At: at, Value: w.row[at]})
		if !ok {
			return
		}
		if a.Err != api.OK {
			w.over = w.over || a.Err == api.ErrSealed
			return
		}
		w.known[to] = min(a.Tail, len(w.row)) // slots beyond the row are none of this Writer's
		if w.known[to] <= at {
			return
		}
	}
}
