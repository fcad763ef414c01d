package draft

import (
	"bytes"
	"math"
	"slices"

	"headland/api"
)

const mostKey = 60 // of a store's pair

func (d *Draft) add(c api.Change) api.Errno {
	if e := refusal(c.Pair); e != api.OK {
		return e
	}
	d.changes = append(d.changes, copied(c))
	return api.OK
}

// refusal is by what a change is refused. The store is not asked: a dead one takes nothing, but its draft does.
func refusal(p api.Pair) api.Errno {
	switch {
	case p.Space < 0 || p.Space >= api.MaxSpaces || len(p.Key) == 0:
		return api.ErrArg
	case len(p.Key) > mostKey || len(p.Value) > api.MaxValue:
		return api.ErrLong
	}
	return api.OK
}

// last is the last change of each key of a space from lo on and below hi, by key.
func (d *Draft) last(space int, lo, hi []byte) map[string]api.Change {
	found := map[string]api.Change{}
changes:
	for _, c := range d.changes {
		switch {
		case c.Space != space || bytes.Compare(c.Key, lo) < 0:
			continue changes
		case len(hi) > 0 && bytes.Compare(c.Key, hi) >= 0:
			continue changes
		}
		found[string(c.Key)] = c
	}
	return found
}

// enough is how many pairs of the store are asked for, so that the first `most` are known: each key that is changed may stand in the place of one of them. What is to be refused, and what asks for none, stays as it is.
func enough(most, changed int) int {
	if most <= 0 {
		return most
	}
	return min(most, math.MaxInt-changed) + changed
}

func sorted(by map[string]api.Change) []api.Change {
	l := make([]api.Change, 0, len(by))
	for _, c := range by {
		l = append(l, c)
	}
	slices.SortFunc(l, func(a, b api.Change) int { return bytes.Compare(a.Key, b.Key) })
	return l
}

// firstLaid is the pairs of the first changes by which a pair is laid down.
func firstLaid(l []api.Change, most int) []api.Pair {
	var first []api.Pair
changes:
	for _, c := range l {
		switch {
		case len(first) == most:
			break changes
		case !c.Gone:
			first = append(first, copied(c).Pair)
		}
	}
	return first
}

func copied(c api.Change) api.Change {
	c.Key, c.Value = bytes.Clone(c.Key), bytes.Clone(c.Value)
	return c
}
