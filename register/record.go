package register

import (
	"bytes"

	"headland/api"
	"headland/local"
	"headland/wire"
)

// record is what is known of a version: a promise, as long as nothing was accepted, or an acceptance.
type record interface {
	promised() int
}

// promise is a promised ballot; 0: none was.
type promise int

func (p promise) promised() int { return int(p) }

// acceptance is what was accepted last, and what was promised by then or since.
type acceptance struct {
	promise
	ballot int
	value  []byte
}

// promising is a record with another promised ballot.
func promising(r record, ballot int) record {
	if a, is := r.(acceptance); is {
		a.promise = promise(ballot)
		return a
	}
	return promise(ballot)
}

// withAccepted is an answer that tells too what was accepted.
func withAccepted(answer api.Answer, r record) api.Answer {
	if a, is := r.(acceptance); is {
		answer.Ballot, answer.Value = a.ballot, bytes.Clone(a.value)
	}
	return answer
}

// The space of the store in which a record stands. It is two pairs there, since a value may be as long as a pair's: its ballots under the version alone, and the value, if one was accepted, under the version and one byte more.
const space = api.MaxSpaces - 1

func ballotsKey(version int) []byte { return []byte{byte(version)} }

func valueKey(version int) []byte { return []byte{byte(version), 0} }

// ballots is how a record's ballots are laid down: the promised one, and the accepted one, 0, if there is none.
func ballots(version int, r record) api.Change {
	last := 0
	if a, is := r.(acceptance); is {
		last = a.ballot
	}
	both := append(wire.Uint(r.promised()), wire.Uint(last)...)
	return api.Change{Pair: api.Pair{Space: space, Key: ballotsKey(version), Value: both}}
}

// accepted is how a record's value is laid down.
func accepted(version int, a acceptance) api.Change {
	return api.Change{Pair: api.Pair{Space: space, Key: valueKey(version), Value: a.value}}
}

// read is a version's record in a store; ErrCorrupt, if no register laid that down.
func read(s *local.Store, version int) (record, api.Errno) {
	b, is, e := s.Get(space, ballotsKey(version))
	if e != api.OK {
		return nil, e
	}
	if !is {
		return promise(0), api.OK
	}
	promised, last, e := ballotsOf(b)
	if e != api.OK {
		return nil, e
	}
	if last == 0 {
		return promise(promised), api.OK
	}
	return readAccepted(s, version, acceptance{promise: promise(promised), ballot: last})
}

// readAccepted is an acceptance with the value that the store has of it.
func readAccepted(s *local.Store, version int, a acceptance) (record, api.Errno) {
	value, is, e := s.Get(space, valueKey(version))
	if e != api.OK {
		return nil, e
	}
	if !is {
		return nil, api.ErrCorrupt
	}
	a.value = value
	return a, api.OK
}

// ballotsOf is the promised and the accepted ballot that stand as b.
func ballotsOf(b []byte) (promised, last int, e api.Errno) {
	promised, at, first := wire.ReadUint(b, 0)
	last, end, second := wire.ReadUint(b, at)
	if first != api.OK || second != api.OK || end != len(b) || promised < 1 || last > promised {
		return 0, 0, api.ErrCorrupt
	}
	return promised, last, api.OK
}
