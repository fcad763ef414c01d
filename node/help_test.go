package node

import (
	"fmt"
	"slices"
	"strings"
	"testing"

	"headland/api"
	"headland/disk"
	"headland/local"
)

const keepAll = 1<<64 - 1

func newDisk(t *testing.T, blocks int) *disk.Disk {
	t.Helper()
	d, e := disk.New(blocks)
	if e != api.OK {
		t.Fatalf("3.1: New(%d): %d", blocks, e)
	}
	return d
}

func mustOpen(t *testing.T, d *disk.Disk) *Node {
	t.Helper()
	n, e := Open(d)
	if n == nil || e != api.OK {
		t.Fatalf("8.1: Open: %v, %d", n, e)
	}
	return n
}

func mustNotOpen(t *testing.T, d *disk.Disk, want api.Errno, why string) {
	t.Helper()
	if n, e := Open(d); n != nil || e != want {
		t.Fatalf("8: Open of %s: %v, %d; not %d", why, n, e, want)
	}
}

func newNode(t *testing.T, blocks int) (*Node, *disk.Disk) {
	t.Helper()
	d := newDisk(t, blocks)
	return mustOpen(t, d), d
}

// copied is another disk with the same blocks.
func copied(t *testing.T, d *disk.Disk) *disk.Disk {
	t.Helper()
	other := newDisk(t, d.Blocks())
	for at := range d.Blocks() {
		b, e := d.Read(at)
		if e != api.OK || other.Write(at, b) != api.OK {
			t.Fatalf("3.2: block %d: %d", at, e)
		}
	}
	if e := other.Flush(); e != api.OK {
		t.Fatalf("3.2: Flush: %d", e)
	}
	return other
}

// ask is a request.
func ask(kind, log, at int, value string) api.Request {
	return api.Request{Kind: kind, Log: log, At: at, Value: []byte(value)}
}

func write(log, at int, value string) api.Request { return ask(api.RWrite, log, at, value) }

func fix(log, at int, value string) api.Request { return ask(api.RFix, log, at, value) }

func seal(log int) api.Request { return ask(api.RSeal, log, 0, "") }

func state(log int) api.Request { return ask(api.RState, log, 0, "") }

func readAt(log, at int) api.Request { return ask(api.RRead, log, at, "") }

func trim(log, at int) api.Request { return ask(api.RTrim, log, at, "") }

func prepare(log, at int) api.Request { return ask(api.RPrepare, log, at, "") }

func accept(log, at int, value string) api.Request { return ask(api.RAccept, log, at, value) }

// writes are requests that write slots from 0 on.
func writes(log int, values ...string) []api.Request {
	l := make([]api.Request, len(values))
	for at, value := range values {
		l[at] = write(log, at, value)
	}
	return l
}

func spelled(r api.Request) string {
	kinds := []string{"RWrite", "RFix", "RSeal", "RState", "RRead", "RTrim", "RPrepare", "RAccept"}
	kind := fmt.Sprint("kind ", r.Kind)
	if r.Kind >= 1 && r.Kind <= 8 {
		kind = kinds[r.Kind-1]
	}
	return fmt.Sprintf("%s(%d, %d, %s)", kind, r.Log, r.At, short(string(r.Value)))
}

func short(s string) string {
	if len(s) > 20 {
		return fmt.Sprintf("%.3s.. (%d bytes)", s, len(s))
	}
	return s
}

func told(a api.Answer) string {
	return fmt.Sprintf("error %d, tail %d, sealed %v, trimmed %d, ballot %d, value %s", a.Err, a.Tail, a.Sealed, a.Trimmed, a.Ballot, short(string(a.Value)))
}

// mustAnswer says all that an answer is.
func mustAnswer(t *testing.T, got, want api.Answer, why string) {
	t.Helper()
	same := got.Err == want.Err && got.Tail == want.Tail && got.Sealed == want.Sealed && got.Trimmed == want.Trimmed && got.Ballot == want.Ballot
	if !same || string(got.Value) != string(want.Value) {
		t.Fatalf("%s: %s; not %s", why, told(got), told(want))
	}
}

// mustDo asks for what has to be answered with OK.
func mustDo(t *testing.T, n *Node, l ...api.Request) {
	t.Helper()
	for _, r := range l {
		if a := n.Do(r); a.Err != api.OK {
			t.Fatalf("8.1: %s: %s", spelled(r), told(a))
		}
	}
}

// row is a loglet as the chapter's words say it; its slots keep their values here, trimmed or not.
type row struct {
	slots   []string
	sealed  bool
	trimmed int
}

// known is what a version's register knows.
type known struct {
	promised, ballot int
	value            string
}

// plain is a node as the chapters' words say it.
type plain struct {
	rows  [17]row
	known [17]known
}

// answer is what a request is answered, with room and power, and the node behind it.
func (p plain) answer(r api.Request) (api.Answer, plain) {
	switch {
	case r.Kind < 1 || r.Kind > 8 || r.Log < 0 || r.Log > 16 || r.At < 0:
		return api.Answer{Err: api.ErrArg}, p
	case len(r.Value) > 1800:
		return api.Answer{Err: api.ErrLong}, p
	case r.Kind >= 7:
		return p.registered(r)
	}
	e, next := p.rows[r.Log].served(r)
	p.rows[r.Log] = next
	a := api.Answer{Err: e, Tail: len(next.slots), Sealed: next.sealed, Trimmed: next.trimmed}
	if r.Kind == 5 && e == api.OK {
		a.Value = []byte(next.slots[r.At])
	}
	return a, p
}

func (w row) served(r api.Request) (api.Errno, row) {
	tail := len(w.slots)
	switch {
	case r.Kind == 1 && w.sealed:
		return api.ErrSealed, w
	case r.Kind == 2 && !w.sealed:
		return api.ErrNone, w
	case r.Kind <= 2 && r.At > 255:
		return api.ErrMany, w
	case r.Kind <= 2 && r.At == tail:
		w.slots = append(slices.Clone(w.slots), string(r.Value))
	case r.Kind == 3:
		w.sealed = true
	case r.Kind == 5 && r.At < w.trimmed:
		return api.ErrTrimmed, w
	case r.Kind == 5 && r.At >= tail || r.Kind == 6 && r.At > tail:
		return api.ErrNone, w
	case r.Kind == 6 && r.At > w.trimmed:
		w.trimmed = r.At
	}
	return api.OK, w
}

func (p plain) registered(r api.Request) (api.Answer, plain) {
	was := p.known[r.Log]
	if r.At < 1 {
		return api.Answer{Err: api.ErrArg}, p
	}
	e := api.OK
	switch {
	case was.promised > r.At || r.Kind == 7 && was.promised == r.At:
		e = api.ErrOwner
	case r.Kind == 7:
		p.known[r.Log].promised = r.At
	default:
		p.known[r.Log] = known{r.At, r.At, string(r.Value)}
	}
	a := api.Answer{Err: e, Tail: p.known[r.Log].promised}
	if r.Kind == 7 {
		a.Ballot, a.Value = was.ballot, []byte(was.value)
	}
	return a, p
}

// behind is the plain node behind some requests.
func (p plain) behind(l ...api.Request) plain {
	for _, r := range l {
		_, p = p.answer(r)
	}
	return p
}

func (p plain) logs() []int {
	var l []int
	for log, w := range p.rows {
		if len(w.slots) > 0 || w.sealed || w.trimmed > 0 {
			l = append(l, log)
		}
	}
	return l
}

// String has all that any call can tell of the node: of a trimmed slot just that there was one.
func (p plain) String() string {
	var b strings.Builder
	for log, w := range p.rows {
		if len(w.slots) > 0 || w.sealed || w.trimmed > 0 {
			fmt.Fprintf(&b, "loglet %d: sealed %v, %d trimmed, %q\n", log, w.sealed, w.trimmed, w.slots[w.trimmed:])
		}
		if p.known[log] != (known{}) {
			fmt.Fprintf(&b, "version %d: %v\n", log, p.known[log])
		}
	}
	return b.String()
}

// shown is what a node tells of its loglets, by requests that change nothing; of its register nothing.
func shown(t *testing.T, n *Node) plain {
	t.Helper()
	var p plain
	for log := range p.rows {
		a := n.Do(state(log))
		if a.Err != api.OK {
			t.Fatalf("8.1: RState(%d): %s", log, told(a))
		}
		w := row{make([]string, a.Tail), a.Sealed, a.Trimmed}
		for at := range a.Tail + 2 {
			want := a
			got := n.Do(readAt(log, at))
			switch {
			case at < a.Trimmed:
				want.Err = api.ErrTrimmed
			case at >= a.Tail:
				want.Err = api.ErrNone
			default:
				want.Value = got.Value
				w.slots[at] = string(got.Value)
			}
			mustAnswer(t, got, want, fmt.Sprintf("8.1: RRead(%d, %d)", log, at))
		}
		p.rows[log] = w
	}
	return p
}

// twin is a node with the same pairs on another disk, on which it may be changed.
func twin(t *testing.T, n *Node) *Node {
	t.Helper()
	l, pos, e := n.store.Export()
	if e != api.OK {
		t.Fatalf("6.4: Export: %d", e)
	}
	d := newDisk(t, 300+2*len(l))
	s, e := local.Open(d)
	if e != api.OK {
		t.Fatalf("6.1: Open: %d", e)
	}
	if e := s.Import(l, pos); e != api.OK {
		t.Fatalf("6.4: Import: %d", e)
	}
	return mustOpen(t, d)
}

// found is all that a node knows.
func found(t *testing.T, n *Node) plain {
	t.Helper()
	p := shown(t, n)
	if n.store.Len(15) == 0 { // the register's space has nothing
		return p
	}
	other := twin(t, n)
	for version := range p.known {
		a := other.Do(prepare(version, 1))
		if a.Err == api.OK {
			a.Tail = 0
		} else if a.Err != api.ErrOwner {
			t.Fatalf("7.2: RPrepare(%d, 1): %s", version, told(a))
		}
		p.known[version] = known{a.Tail, a.Ballot, string(a.Value)}
	}
	return p
}

// mustKnow says all that a node knows.
func mustKnow(t *testing.T, n *Node, want plain, why string) {
	t.Helper()
	if got := found(t, n).String(); got != want.String() {
		t.Fatalf("%s: it knows\n%s; not\n%s", why, got, want)
	}
	mustList(t, n, want, why)
}

func mustList(t *testing.T, n *Node, want plain, why string) {
	t.Helper()
	if got := n.Logs(); !slices.Equal(got, want.logs()) {
		t.Fatalf("%s: Logs: %v; not %v", why, got, want.logs())
	}
}

// mustFind says what a node of the disk, opened anew, knows.
func mustFind(t *testing.T, d *disk.Disk, want plain, why string) *Node {
	t.Helper()
	n := mustOpen(t, d)
	mustKnow(t, n, want, why)
	return n
}

// mustBeDead says that a node without power answers ErrDown, and nothing else, whatever it is asked.
func mustBeDead(t *testing.T, n *Node, was plain, why string) {
	t.Helper()
	if !n.Dead() {
		t.Fatalf("8.1: %s: it is not dead", why)
	}
	for kind := -1; kind <= 9; kind++ {
		for _, log := range []int{-1, 0, 1, 2, 16, 17} {
			for _, at := range []int{-1, 0, 1, 2, 256} {
				for _, length := range []int{0, 1, 1801} {
					r := ask(kind, log, at, strings.Repeat("v", length))
					mustAnswer(t, n.Do(r), api.Answer{Err: api.ErrDown}, "8.1: "+why+": "+spelled(r))
				}
			}
		}
	}
	mustList(t, n, was, "8.1: "+why)
}
