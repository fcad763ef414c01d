package meta

import (
	"headland/api"
	"headland/wire"
)

const (
	mostSegments = api.MaxVersions + 1 // each version has one more than the last
	farthest     = 1 << 62             // where a segment may end
	open         = -1                  // the End of one that has none so far
)

// Right is whether segments are a chain.
func Right(l []api.Segment) bool {
	if len(l) < 1 || len(l) > mostSegments {
		return false
	}
	end := 0
	for i, s := range l {
		if s.Log != i || s.Start != end || !isServer(s.Owner) {
			return false
		}
		if i < len(l)-1 && (s.End < s.Start || s.End > farthest) {
			return false
		}
		end = s.End
	}
	return end == open
}

// Encode is a chain's bytes.
func Encode(l []api.Segment) ([]byte, api.Errno) {
	if !Right(l) {
		return nil, api.ErrArg
	}
	b := wire.Uint(len(l))
	for _, s := range l {
		b = append(b, wire.Uint(s.Owner)...)
		if s.End != open {
			b = append(b, wire.Uint(s.End-s.Start)...)
		}
	}
	return b, api.OK
}

// Decode reads them.
func Decode(b []byte) ([]api.Segment, api.Errno) {
	count, at, e := wire.ReadUint(b, 0)
	if e != api.OK {
		return nil, e
	}
	if count < 1 || count > mostSegments {
		return nil, api.ErrForm
	}
	l := make([]api.Segment, count)
	start := 0
	for i := range l {
		s, next, e := segment(b, at, i == count-1)
		if e != api.OK {
			return nil, e
		}
		s.Log, s.Start = i, start
		if s.End != open {
			s.End += start // a sum that is too great for a number wraps round to one below Start, which is not Right either
		}
		l[i], start, at = s, s.End, next
	}
	if at < len(b) || !Right(l) {
		return nil, api.ErrForm
	}
	return l, api.OK
}

// segment reads a segment's owner and, but of the last one, how many positions it has: its End, as if it began at 0.
func segment(b []byte, at int, last bool) (s api.Segment, next int, e api.Errno) {
	s.End = open
	s.Owner, next, e = wire.ReadUint(b, at)
	if e == api.OK && !last {
		s.End, next, e = wire.ReadUint(b, next)
	}
	return s, next, e
}

// First is the first chain.
func First() []api.Segment { return []api.Segment{{End: open}} }
