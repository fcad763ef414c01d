package net

import (
	"bytes"
	"slices"

	"headland/api"
)

// Late is the late requests.
func (n *Net) Late() []Late {
	l := make([]Late, len(n.late))
	for i, w := range n.late {
		l[i] = Late{w.Node, own(w.Request)}
	}
	return l
}

// Deliver lets a late one be done.
func (n *Net) Deliver(i int) api.Errno {
	l, e := n.take(i)
	if e != api.OK {
		return e
	}
	n.hosts[l.Node].do(l.Request)
	return api.OK
}

// Drop lets a late one go.
func (n *Net) Drop(i int) api.Errno {
	_, e := n.take(i)
	return e
}

// delay lets a request be late, if not too many are: else it is lost.
func (n *Net) delay(to int, r api.Request) {
	if len(n.late) < api.MaxLate {
		n.late = append(n.late, Late{to, own(r)})
	}
}

// take lets a request be late no longer.
func (n *Net) take(i int) (Late, api.Errno) {
	if i < 0 || i >= len(n.late) {
		return Late{}, api.ErrNone
	}
	l := n.late[i]
	n.late = slices.Delete(n.late, i, i+1)
	return l, api.OK
}

// own is a request with memory of its own.
func own(r api.Request) api.Request {
	r.Value = bytes.Clone(r.Value)
	return r
}
