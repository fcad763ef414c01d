package loglet

import (
	"headland/api"
	"headland/net"
)

// replica is what a node answered of a loglet.
type replica struct {
	node, tail int
	sealed     bool
}

// majority asks all nodes for the same: those that were taken with OK, in their order; ErrTimeout, if they are too few.
func majority(n *net.Net, r api.Request) ([]replica, api.Errno) {
	var l []replica
	for to := range n.Nodes() {
		if a, ok := n.Call(to, r); ok && a.Err == api.OK {
			l = append(l, replica{node: to, tail: a.Tail, sealed: a.Sealed})
		}
	}
	if len(l) < n.Major() {
		return nil, api.ErrTimeout
	}
	return l, api.OK
}

// level is the greatest tail, once so many have it: who lags behind is helped by the first of the foremost ones.
func level(major int, l []replica, help func(from, to replica) int) (int, api.Errno) {
	from := l[0]
	for _, r := range l {
		if r.tail > from.tail {
			from = r
		}
	}
	whole := 0
	for _, r := range l {
		if help(from, r) >= from.tail {
			whole++
		}
	}
	if whole < major {
		return 0, api.ErrTimeout
	}
	return from.tail, api.OK
}

// helping is the help that a node gets, slot by slot, and how many slots it has behind that. Just the kind of request that lays a slot down differs between a loglet that is open and one that is sealed.
func helping(n *net.Net, log, kind int) func(from, to replica) int {
	return func(from, to replica) int {
		for to.tail < from.tail {
			at := to.tail
			read, ok := n.Call(from.node, api.Request{Kind: api.RRead, Log: log, At: at})
			if !ok || read.Err != api.OK {
				break
			}
			laid, ok := n.Call(to.node, api.Request{Kind: kind, Log: log, At: at, Value: read.Value})
			if !ok || laid.Err != api.OK {
				break
			}
			to.tail = laid.Tail
			if to.tail != at+1 {
				break
			}
		}
		return to.tail
	}
}
