package loglet

import (
	"fmt"
	"math"
	"slices"
	"strings"
	"testing"

	"headland/api"
	"headland/disk"
	"headland/net"
)

const (
	blocks  = 48
	log     = 3 // the loglet of all tests that name none
	keepAll = 1<<64 - 1
)

var longest = strings.Repeat("v", 1799) + "w"

// noLogs are numbers of no loglet.
var noLogs = []int{math.MinInt, -17, -1, 17, 18, 256, math.MaxInt}

func newNet(t *testing.T, nodes int) *net.Net {
	t.Helper()
	return netOf(t, nodes, blocks)
}

func netOf(t *testing.T, nodes, blocks int) *net.Net {
	t.Helper()
	n, e := net.New(nodes, blocks)
	if e != api.OK {
		t.Fatalf("9.1: New: %d", e)
	}
	return n
}

func newWriter(t *testing.T, n *net.Net) *Writer {
	t.Helper()
	w, e := New(n, log)
	if w == nil || e != api.OK {
		t.Fatalf("10.1: New: %v, %d", w, e)
	}
	return w
}

// laid is a net whose nodes have what is spelled, one behind the other with a '|' between: a letter is a slot's value, '-' a slot that is trimmed; behind these '!' is sealed, '~' has no room any more, '.' is not up.
func laid(t *testing.T, spelled string) *net.Net {
	t.Helper()
	rows := strings.Split(spelled, "|")
	n := newNet(t, len(rows))
	for to, row := range rows {
		slots := strings.TrimRight(row, "!~.")
		for at := range len(slots) {
			mustDo(t, n, to, api.Request{Kind: api.RWrite, At: at, Value: []byte{slots[at]}})
		}
		if gone := strings.Count(slots, "-"); gone > 0 {
			mustDo(t, n, to, api.Request{Kind: api.RTrim, At: gone})
		}
		for _, flag := range row[len(slots):] {
			switch flag {
			case '!':
				mustDo(t, n, to, api.Request{Kind: api.RSeal})
			case '~':
				fill(t, n, to)
			case '.':
				mustBe(t, n.Crash(to, disk.Loss{}), api.OK, "9.4: Crash")
			}
		}
	}
	return n
}

// mustDo asks one node for something of the loglet, without weather.
func mustDo(t *testing.T, n *net.Net, to int, r api.Request) {
	t.Helper()
	r.Log = log
	if a, ok := n.Call(to, r); !ok || a.Err != api.OK {
		t.Fatalf("9.2: Call of %d: %v, %v", to, a, ok)
	}
}

// fill writes to other loglets of a node till there is no room for anything, last of all right ahead of and behind what the loglet has.
func fill(t *testing.T, n *net.Net, to int) {
	t.Helper()
	for _, other := range []int{16, 15, 0, 1, log + 1, log - 1} {
		for at := 0; ; at++ {
			a, _ := n.Call(to, api.Request{Kind: api.RWrite, Log: other, At: at})
			if a.Err == api.ErrFull {
				break
			}
			if a.Err != api.OK {
				t.Fatalf("8.1: a node that is never full: %d", a.Err)
			}
		}
		n.Call(to, api.Request{Kind: api.RSeal, Log: other})
	}
}

// shown spells what the nodes have, as laid takes it; of a node that is not up just '.', and of no room nothing.
func shown(t *testing.T, n *net.Net, log int) string {
	t.Helper()
	var rows []string
	for to := range n.Nodes() {
		if !n.Up(to) {
			rows = append(rows, ".")
			continue
		}
		s, ok := n.Look(to, api.Request{Kind: api.RState, Log: log})
		row := strings.Repeat("-", s.Trimmed)
		for at := s.Trimmed; at < s.Tail; at++ {
			a, is := n.Look(to, api.Request{Kind: api.RRead, Log: log, At: at})
			ok = ok && is && a.Err == api.OK
			row += brief(a.Value)
		}
		if !ok {
			t.Fatalf("9.4: Look of node %d", to)
		}
		if s.Sealed {
			row += "!"
		}
		rows = append(rows, row)
	}
	return strings.Join(rows, "|")
}

// brief is a letter as it is, anything else so that it can be told apart.
func brief(b []byte) string {
	if len(b) == 1 {
		return string(b)
	}
	if len(b) > 20 {
		return fmt.Sprintf("(%.3s.. %d %x)", b, len(b), b[len(b)-1])
	}
	return "(" + string(b) + ")"
}

func mustShow(t *testing.T, n *net.Net, want, why string) {
	t.Helper()
	if got := shown(t, n, log); got != want {
		t.Fatalf("%s: the nodes have %s; not %s", why, got, want)
	}
}

func mustBe(t *testing.T, got, want api.Errno, why string) {
	t.Helper()
	if got != want {
		t.Fatalf("%s: error %d; not %d", why, got, want)
	}
}

// mustTell says what a call told that tells a number.
func mustTell(t *testing.T, got int, e api.Errno, want int, err api.Errno, why string) {
	t.Helper()
	if got != want || e != err {
		t.Fatalf("%s: %d, error %d; not %d, error %d", why, got, e, want, err)
	}
}

func mustRead(t *testing.T, n *net.Net, at int, want string, err api.Errno, why string) {
	t.Helper()
	if v, e := Read(n, log, at); string(v) != want || e != err {
		t.Fatalf("%s: Read(%d): %s, error %d; not %s, error %d", why, at, brief(v), e, brief([]byte(want)), err)
	}
}

// mustAppend appends all of them, each at its place.
func mustAppend(t *testing.T, w *Writer, l ...string) {
	t.Helper()
	for _, v := range l {
		was := w.Len()
		at, e := w.Append([]byte(v))
		mustTell(t, at, e, was, api.OK, "10.2: Append of "+brief([]byte(v)))
		mustStand(t, w, was+1, was+1, false, "10.2: Append of "+brief([]byte(v)))
	}
}

// mustRefuse appends in vain; long is the row's length behind it.
func mustRefuse(t *testing.T, w *Writer, v string, err api.Errno, long int, why string) {
	t.Helper()
	at, e := w.Append([]byte(v))
	mustTell(t, at, e, 0, err, why+": Append")
	if w.Len() != long {
		t.Fatalf("%s: Append: Len is %d; not %d", why, w.Len(), long)
	}
}

func mustStand(t *testing.T, w *Writer, done, long int, over bool, why string) {
	t.Helper()
	if w.Done() != done || w.Len() != long || w.Over() != over || w.Log() != log {
		t.Fatalf("%s: Done %d, Len %d, Over %v, Log %d; not %d, %d, %v, %d", why, w.Done(), w.Len(), w.Over(), w.Log(), done, long, over, log)
	}
}

// mustCall says how many calls are made; no number waits behind it.
func mustCall(t *testing.T, n *net.Net, want int, why string, op func()) {
	t.Helper()
	was := n.Ahead()
	n.Weather(make([]int, 4000)...)
	op()
	got := was + 4000 - n.Ahead()
	for n.Ahead() > 0 {
		n.Fate()
	}
	if got != want {
		t.Fatalf("%s: %d calls; not %d", why, got, want)
	}
}

// asked are the calls that an operation makes, in their order. Each is seen in a run of its own, in which it is delayed behind those ahead of it, whose fates are the weather's.
func asked(t *testing.T, weather []int, start func() (*net.Net, func())) []string {
	t.Helper()
	var l []string
	for len(l) < 4000 {
		n, op := start()
		fates := append(slices.Clone(weather), make([]int, len(l))...)[:len(l)]
		n.Weather(append(fates, 6)...)
		op()
		if n.Ahead() > 0 {
			return l
		}
		late := n.Late()
		l = append(l, spelledCall(t, late[len(late)-1]))
	}
	t.Fatal("10: an operation that does not end")
	return nil
}

func spelledCall(t *testing.T, l net.Late) string {
	t.Helper()
	r := l.Request
	kinds := []string{"", "write", "fix", "seal", "state", "read", "trim", "prepare", "accept"}
	if r.Log != log {
		t.Fatalf("10: a call of the loglet %d; not %d", r.Log, log)
	}
	s := fmt.Sprint(l.Node, " ", kinds[r.Kind])
	switch r.Kind {
	case api.RWrite, api.RFix:
		return fmt.Sprint(s, " ", r.At, " ", brief(r.Value))
	case api.RRead, api.RTrim:
		return fmt.Sprint(s, " ", r.At)
	}
	return s
}

func mustAsk(t *testing.T, got []string, want, why string) {
	t.Helper()
	if all := strings.Join(got, ", "); all != want {
		t.Fatalf("%s: the calls are\n%s; not\n%s", why, all, want)
	}
}

// losses are ways to lose power: open writes kept, lost and torn.
func losses(after int) []disk.Loss {
	return []disk.Loss{
		{After: after, Torn: -1}, {After: after, Keep: keepAll, Torn: -1}, {After: after, Keep: 0x5555555555555555, Torn: -1},
		{After: after, Torn: 0, Cut: 11}, {After: after, Keep: keepAll, Torn: 0, Cut: 8191}, {After: after, Keep: keepAll, Torn: 1, Cut: 5},
	}
}

func restartAll(n *net.Net) {
	for to := range n.Nodes() {
		n.Restart(to)
	}
}

func deliverAll(n *net.Net) {
	for n.Deliver(0) == api.OK {
	}
}

func spoil(b []byte) {
	b = b[:cap(b)]
	for i := range b {
		b[i] ^= 0xff
	}
}
