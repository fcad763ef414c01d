package net

import (
	"headland/api"
	"headland/disk"
	"headland/node"
)

// host is a disk and the node on it.
type host struct {
	disk *disk.Disk
	node *node.Node // nil: Open refused it
}

// start gives the disk its power, if it has none, and opens the node anew. A disk whose node was refused has power all the while, so that something may be armed there.
func (h *host) start() (e api.Errno) {
	h.disk.Restart()
	h.disk.Arm(disk.Loss{})
	h.node, e = node.Open(h.disk)
	return e
}

func (h *host) up() bool { return h.node != nil && !h.node.Dead() }

// do does a request, and is what is told of it, if anything is.
func (h *host) do(r api.Request) (api.Answer, bool) {
	if !h.up() {
		return api.Answer{}, false
	}
	a := h.node.Do(r)
	if !h.up() || a.Err == api.ErrDown {
		return api.Answer{}, false
	}
	return a, true
}
