package node

import "headland/api"

// loglet is what is known of a loglet beside its slots' values.
type loglet struct {
	tail    int // how many slots are written, those that are trimmed too
	trimmed int
	sealed  bool
}

// loglets are all that there may be.
type loglets [api.MaxVersions + 1]loglet

// refusal is by what a request is refused, as the loglet is. A kind that asks for more falls through to one that asks for less of the same.
func (l loglet) refusal(r api.Request) api.Errno {
	switch r.Kind {
	case api.RRead:
		if r.At < l.trimmed {
			return api.ErrTrimmed
		}
		if r.At == l.tail {
			return api.ErrNone
		}
		fallthrough
	case api.RTrim:
		if r.At > l.tail {
			return api.ErrNone
		}
	case api.RFix:
		if !l.sealed {
			return api.ErrNone
		}
		fallthrough
	case api.RWrite:
		if l.sealed && r.Kind == api.RWrite {
			return api.ErrSealed
		}
		if r.At >= api.MaxSlots {
			return api.ErrMany
		}
	}
	return api.OK
}

// behind is the loglet behind a request that is not refused.
func (l loglet) behind(r api.Request) loglet {
	switch r.Kind {
	case api.RWrite, api.RFix:
		if r.At == l.tail {
			l.tail++
		}
	case api.RSeal:
		l.sealed = true
	case api.RTrim:
		l.trimmed = max(l.trimmed, r.At)
	}
	return l
}
