package node

import (
	"headland/api"
	"headland/local"
	"headland/wire"
)

// The space of the store in which loglets stand. Each slot that is not trimmed is a pair there, under its loglet and its number, so a write is one pair more and nothing else. Ahead of them, under the loglet alone, stands its mark: how many are trimmed, and whether it is sealed; a loglet that is neither has none.
const space = 0

func markKey(log int) []byte { return []byte{byte(log)} }

func slotKey(log, at int) []byte { return []byte{byte(log), byte(at)} }

// mark is what stands under the loglet alone.
func mark(l loglet) []byte {
	if l.sealed {
		return wire.Uint(2*l.trimmed + 1)
	}
	return wire.Uint(2 * l.trimmed)
}

// changes are those of the store that make next of was; value is that of a slot that is written.
func changes(log int, was, next loglet, value []byte) []api.Change {
	if next.tail > was.tail {
		return []api.Change{laid(slotKey(log, was.tail), value)}
	}
	l := []api.Change{laid(markKey(log), mark(next))}
	for at := was.trimmed; at < next.trimmed; at++ {
		gone := laid(slotKey(log, at), nil)
		gone.Gone = true
		l = append(l, gone)
	}
	return l
}

func laid(key, value []byte) api.Change {
	return api.Change{Pair: api.Pair{Space: space, Key: key, Value: value}}
}

// read is the loglets as a store has them; ErrCorrupt, if no node laid that down.
func read(s *local.Store) (l loglets, e api.Errno) {
	pairs, e := s.Range(space, nil, nil, s.Len(space))
	if e != api.OK {
		return loglets{}, e
	}
	for _, p := range pairs {
		log := int(p.Key[0])
		if log >= len(l) {
			return loglets{}, api.ErrCorrupt
		}
		if l[log], e = l[log].with(log, p); e != api.OK {
			return loglets{}, e
		}
	}
	return l, api.OK
}

// with is a loglet with one pair more, the pairs being handed in in their order: its mark, if it has one, then its slots.
func (l loglet) with(log int, p api.Pair) (loglet, api.Errno) {
	if len(p.Key) == 1 {
		return marked(p.Value)
	}
	if l.tail >= api.MaxSlots || string(p.Key) != string(slotKey(log, l.tail)) {
		return loglet{}, api.ErrCorrupt
	}
	l.tail++
	return l, api.OK
}

// marked is a loglet with a mark, of which all is trimmed that is written.
func marked(b []byte) (loglet, api.Errno) {
	m, end, e := wire.ReadUint(b, 0)
	if e != api.OK || end != len(b) || m < 1 || m/2 > api.MaxSlots {
		return loglet{}, api.ErrCorrupt
	}
	return loglet{tail: m / 2, trimmed: m / 2, sealed: m%2 == 1}, api.OK
}

// readSlot is the value of a slot that is written and not trimmed.
func readSlot(s *local.Store, log, at int) ([]byte, api.Errno) {
	value, is, e := s.Get(space, slotKey(log, at))
	if e == api.OK && !is {
		return nil, api.ErrCorrupt
	}
	return value, e
}
