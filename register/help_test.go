package register

import (
	"fmt"
	"strings"
	"testing"

	"headland/api"
	"headland/disk"
	"headland/local"
)

const keepAll = 1<<64 - 1

func newDisk(t *testing.T, blocks int) *disk.Disk {
	t.Helper()
	d, e := disk.New(blocks)
	if e != api.OK {
		t.Fatalf("3.1: New(%d): %d", blocks, e)
	}
	return d
}

func openStore(t *testing.T, d *disk.Disk) *local.Store {
	t.Helper()
	s, e := local.Open(d)
	if e != api.OK {
		t.Fatalf("6.1: Open: %d", e)
	}
	return s
}

func mustNew(t *testing.T, s *local.Store) *Register {
	t.Helper()
	g, e := New(s)
	if g == nil || e != api.OK {
		t.Fatalf("7.1: New: %v, %d", g, e)
	}
	return g
}

func mustNotNew(t *testing.T, s *local.Store, want api.Errno, why string) {
	t.Helper()
	if g, e := New(s); g != nil || e != want {
		t.Fatalf("7.1: New of %s: %v, %d; not %d", why, g, e, want)
	}
}

// opened is the register of a disk's store.
func opened(t *testing.T, d *disk.Disk) (*Register, *local.Store) {
	t.Helper()
	s := openStore(t, d)
	return mustNew(t, s), s
}

func newRegister(t *testing.T, blocks int) (*Register, *local.Store, *disk.Disk) {
	t.Helper()
	d := newDisk(t, blocks)
	g, s := opened(t, d)
	return g, s, d
}

// call is a Prepare, or an Accept of a value.
type call struct {
	version, ballot int
	accepts         bool
	value           string
}

func prepare(version, ballot int) call { return call{version: version, ballot: ballot} }

func accept(version, ballot int, value string) call { return call{version, ballot, true, value} }

func (c call) of(g *Register) api.Answer {
	if c.accepts {
		return g.Accept(c.version, c.ballot, []byte(c.value))
	}
	return g.Prepare(c.version, c.ballot)
}

func (c call) String() string {
	if c.accepts {
		return fmt.Sprintf("Accept(%d, %d, %s)", c.version, c.ballot, short(c.value))
	}
	return fmt.Sprintf("Prepare(%d, %d)", c.version, c.ballot)
}

func short(s string) string {
	if len(s) > 20 {
		return fmt.Sprintf("%.3s.. (%d bytes)", s, len(s))
	}
	return s
}

// mustAnswer says all that an answer is.
func mustAnswer(t *testing.T, got, want api.Answer, why string) {
	t.Helper()
	if got.Err != want.Err || got.Tail != want.Tail || got.Ballot != want.Ballot || string(got.Value) != string(want.Value) || got.Sealed || got.Trimmed != 0 {
		t.Fatalf("%s: %s; not %s", why, told(got), told(want))
	}
}

func told(a api.Answer) string {
	return fmt.Sprintf("error %d, tail %d, ballot %d, value %s, sealed %v, trimmed %d", a.Err, a.Tail, a.Ballot, short(string(a.Value)), a.Sealed, a.Trimmed)
}

func mustDo(t *testing.T, g *Register, l ...call) {
	t.Helper()
	for _, c := range l {
		if a := c.of(g); a.Err != api.OK {
			t.Fatalf("7.2: %s: %s", c, told(a))
		}
	}
}

// known is what a plain register knows of a version.
type known struct {
	promised, ballot int
	value            string
}

// plain is a register as the chapter's words say it.
type plain [api.MaxVersions + 1]known

// answer is what a call with room and power is answered, and the register behind it.
func (p plain) answer(c call) (api.Answer, plain) {
	switch {
	case c.version < 0 || c.version > 16 || c.ballot < 1:
		return api.Answer{Err: api.ErrArg}, p
	case c.accepts && len(c.value) > 1800:
		return api.Answer{Err: api.ErrLong}, p
	}
	was := p[c.version]
	e := api.OK
	switch {
	case was.promised > c.ballot || !c.accepts && was.promised == c.ballot:
		e = api.ErrOwner
	case c.accepts:
		p[c.version] = known{c.ballot, c.ballot, c.value}
	default:
		p[c.version].promised = c.ballot
	}
	a := api.Answer{Err: e, Tail: p[c.version].promised}
	if !c.accepts {
		a.Ballot, a.Value = was.ballot, []byte(was.value)
	}
	return a, p
}

func (p plain) String() string {
	var l []string
	for version, k := range p {
		if k != (known{}) {
			l = append(l, fmt.Sprintf("%d: promised %d, accepted %d %s", version, k.promised, k.ballot, short(k.value)))
		}
	}
	return strings.Join(l, "; ")
}

// of is the plain register behind some calls.
func (p plain) of(l ...call) plain {
	for _, c := range l {
		_, p = p.answer(c)
	}
	return p
}

// found is what the register of a store knows. It is asked on another store with the same pairs, on which it may be changed.
func found(t *testing.T, s *local.Store) plain {
	t.Helper()
	l, pos, e := s.Export()
	if e != api.OK {
		t.Fatalf("6.4: Export: %d", e)
	}
	other := openStore(t, newDisk(t, 150))
	if e := other.Import(l, pos); e != api.OK {
		t.Fatalf("6.4: Import: %d", e)
	}
	g := mustNew(t, other)
	var p plain
	for version := range p {
		a := g.Prepare(version, 1)
		if a.Err == api.OK {
			a.Tail = 0
		} else if a.Err != api.ErrOwner {
			t.Fatalf("7.2: Prepare(%d, 1): %s", version, told(a))
		}
		p[version] = known{a.Tail, a.Ballot, string(a.Value)}
	}
	return p
}

// mustKnow says what a store's register knows, by the register itself, and by a new one.
func mustKnow(t *testing.T, g *Register, s *local.Store, want plain, why string) {
	t.Helper()
	if got := found(t, s); got != want {
		t.Fatalf("%s: it knows %s; not %s", why, got, want)
	}
	for version, k := range want {
		if k.promised > 0 {
			a := api.Answer{Err: api.ErrOwner, Tail: k.promised, Ballot: k.ballot, Value: []byte(k.value)}
			mustAnswer(t, g.Prepare(version, 1), a, why)
		}
	}
}

// mustFind says what a register of the disk, opened anew, knows.
func mustFind(t *testing.T, d *disk.Disk, want plain, why string) (*Register, *local.Store) {
	t.Helper()
	g, s := opened(t, d)
	mustKnow(t, g, s, want, why)
	return g, s
}
