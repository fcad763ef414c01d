package session

import (
	"headland/api"
	"headland/draft"
	"headland/entry"
)

const (
	space       = 2 // of the draft: the ones below it are the tables'
	greatest    = 1<<31 - 1
	numberBytes = 4
)

// What a Look finds.
const (
	isNew = iota
	isAgain
	isStale
)

// last is a session's last number, and its reply's bytes. Ahead of all of them it is 0, and there is no reply.
type last struct {
	number int
	reply  []byte
}

func isNumber(seq int) bool { return 1 <= seq && seq <= greatest }

func key(session int) []byte { return []byte{byte(session)} }

func lastOf(d *draft.Draft, session int) (last, api.Errno) {
	if d == nil || session < 0 || session >= api.MaxSessions {
		return last{}, api.ErrArg
	}
	b, is, e := d.Get(space, key(session))
	if e != api.OK || !is {
		return last{}, e
	}
	return read(b)
}

// laid is both in one value, the number in as many bytes as any, so that the reply's need no end.
func (l last) laid() []byte {
	b := make([]byte, 0, numberBytes+len(l.reply))
	for shift := 8 * (numberBytes - 1); shift >= 0; shift -= 8 {
		b = append(b, byte(l.number>>shift))
	}
	return append(b, l.reply...)
}

// read takes them apart. Bytes that Keep did not lay down are refused as entry refuses a reply's.
func read(b []byte) (last, api.Errno) {
	if len(b) <= numberBytes {
		return last{}, api.ErrForm
	}
	l := last{reply: b[numberBytes:]}
	for _, part := range b[:numberBytes] {
		l.number = l.number<<8 | int(part)
	}
	if !isNumber(l.number) {
		return last{}, api.ErrForm
	}
	return l, api.OK
}

// look is what a Look finds. A number that is new is told as one that comes again, but that no reply is kept of it.
func (l last) look(seq int) (int, api.Reply, api.Errno) {
	state := isAgain
	switch {
	case seq > l.number:
		state, l.reply = isNew, nil
		fallthrough
	case seq == l.number:
		r, e := l.told()
		if e != api.OK {
			return 0, api.Reply{}, e
		}
		return state, r, api.OK
	}
	return isStale, api.Reply{}, api.OK
}

func (l last) told() (api.Reply, api.Errno) {
	if len(l.reply) == 0 {
		return api.Reply{}, api.OK
	}
	return entry.DecodeReply(l.reply)
}
