package local

import (
	"headland/api"
	"headland/tree"
	"headland/wire"
)

const mostKey = 60

// A pair's key in the tree is a byte of its space, and its own key. The position stands behind all pairs, under the byte of a space that there is not; the position 0 is no pair, so that each store has one form alone.
const positionSpace = api.MaxSpaces

// figures are what a store tells of its tree without an Errno: kept here they are told by a dead one too.
type figures struct {
	pos   int
	pairs [api.MaxSpaces]int // how many, by space
}

func isSpace(space int) bool { return space >= 0 && space < api.MaxSpaces }

func treeKey(space int, key []byte) []byte {
	return append([]byte{byte(space)}, key...)
}

// treeEnd is what the keys of a space are below that are below hi (none: all of its keys).
func treeEnd(space int, hi []byte) []byte {
	if len(hi) == 0 {
		return treeKey(space+1, nil)
	}
	return treeKey(space, hi)
}

func positionKey() []byte { return treeKey(positionSpace, nil) }

// pairOf is the pair of a store that stands in the tree as p; false, if no store laid that down.
func pairOf(p api.Pair) (api.Pair, bool) {
	space, length := int(p.Key[0]), len(p.Key)-1
	if !isSpace(space) || length == 0 || length > mostKey {
		return api.Pair{}, false
	}
	return api.Pair{Space: space, Key: p.Key[1:], Value: p.Value}, true
}

// positionOf is the position that stands in the tree as p; false, if no store laid that down.
func positionOf(p api.Pair) (int, bool) {
	if string(p.Key) != string(positionKey()) {
		return 0, false
	}
	pos, end, e := wire.ReadUint(p.Value, 0)
	return pos, e == api.OK && end == len(p.Value) && pos > 0
}

// counted is the figures of a tree, of which each pair must be one that a store laid down.
func counted(t *tree.Tree) (figures, api.Errno) {
	l, e := t.Range(nil, nil, t.Len())
	if e != api.OK {
		return figures{}, e
	}
	var found figures
	for _, p := range l {
		if own, is := pairOf(p); is {
			found.pairs[own.Space]++
		} else if found.pos, is = positionOf(p); !is {
			return figures{}, api.ErrCorrupt
		}
	}
	return found, api.OK
}

// pairs is the first pairs with keys of the tree from lo on and below hi.
func (s *Store) pairs(lo, hi []byte, most int) ([]api.Pair, api.Errno) {
	l, e := s.Tree.Range(lo, hi, most)
	if e != api.OK {
		return nil, e
	}
	for i, p := range l {
		own, is := pairOf(p)
		if !is {
			return nil, api.ErrCorrupt
		}
		l[i] = own
	}
	return l, api.OK
}
