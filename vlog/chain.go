package vlog

import (
	"slices"

	"headland/api"
)

// open is the End of a segment that has none so far.
const open = -1

// chain is a version and its segments, of which the last one is open.
type chain struct {
	version  int
	segments []api.Segment
}

func (c *chain) last() api.Segment { return c.segments[len(c.segments)-1] }

// holder is the first segment that has a position. Empty ones have none, and the last one has all that others have not.
func (c *chain) holder(pos int) api.Segment {
	for _, s := range c.segments {
		if s.Start <= pos && pos < s.End {
			return s
		}
	}
	return c.last()
}

// next is the next version's chain: the last segment ends behind so many places, and one of a new loglet follows.
func (c *chain) next(places, who int) []api.Segment {
	l := slices.Clone(c.segments)
	s := &l[len(l)-1]
	s.End = s.Start + places
	return append(l, api.Segment{Log: c.version + 1, Start: s.End, End: open, Owner: who})
}

// placesBelow is how many places of a segment, which begins below a position, lie below it too.
func placesBelow(s api.Segment, pos int) int {
	if s.End != open {
		pos = min(pos, s.End)
	}
	return pos - s.Start
}
