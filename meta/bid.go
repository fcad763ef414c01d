package meta

import (
	"headland/api"
	"headland/net"
)

const mostRounds = 3

// bid is one call that lets a version's value be decided.
type bid struct {
	net          *net.Net
	version, who int
	promised     int // the greatest ballot that any answer told as promised
}

// decide is the value that is decided: one that somebody may have been told already, or else its own. Without one of its own it is false, if nobody can have been told any.
func (b *bid) decide(own []byte) ([]byte, bool, api.Errno) {
	spare := b.net.Nodes() - b.net.Major() // so many may be missing in each half of a round
rounds:
	for range mostRounds {
		ballot, value, accepted, missing := b.ballot(), own, 0, 0
		for _, a := range b.ask(api.RPrepare, ballot, nil) {
			switch {
			case a.Err != api.OK && missing == spare:
				continue rounds
			case a.Err != api.OK:
				missing++
			case a.Ballot > accepted:
				accepted, value = a.Ballot, a.Value
			}
		}
		if accepted == 0 && len(own) == 0 {
			return nil, false, api.OK
		}
		missing = 0
		for _, a := range b.ask(api.RAccept, ballot, value) {
			switch {
			case a.Err != api.OK && missing == spare:
				continue rounds
			case a.Err != api.OK:
				missing++
			}
		}
		return value, true, api.OK
	}
	return nil, false, api.ErrTimeout
}

// ballot is one above all that were told; by its rest no two servers have the same. Behind the greatest number it wraps round to one below 0, which every node refuses.
func (b *bid) ballot() int {
	return api.MaxServers*(b.promised/api.MaxServers+1) + b.who + 1
}

// ask asks each node for the same. A node that can't be heard counts as one that refuses.
func (b *bid) ask(kind, ballot int, value []byte) []api.Answer {
	l := make([]api.Answer, b.net.Nodes())
	for to := range l {
		a, taken := b.net.Call(to, api.Request{Kind: kind, Log: b.version, At: ballot, Value: value})
		if !taken {
			a.Err = api.ErrTimeout
		}
		b.promised = max(b.promised, a.Tail)
		l[to] = a
	}
	return l
}
