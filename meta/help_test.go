package meta

import (
	"fmt"
	"math"
	"slices"
	"strconv"
	"strings"
	"testing"

	"headland/api"
	"headland/disk"
	"headland/net"
)

const (
	blocks  = 24
	version = 3 // the version of all tests that name none
	keepAll = 1<<64 - 1
)

// Numbers of no version, and of no server.
var (
	noVersions = []int{math.MinInt, -3, -1, 0, 17, 18, 256, math.MaxInt}
	noServers  = []int{math.MinInt, -4, -1, 4, 5, 8, math.MaxInt}
)

// chain is the chain of a name, a small letter: each name has one of its own.
func chain(name byte) []api.Segment {
	k := int(name - 'a')
	return []api.Segment{{Log: 0, Start: 0, End: 5 * k, Owner: k % 4}, {Log: 1, Start: 5 * k, End: -1, Owner: k / 4 % 4}}
}

// valueOf is the bytes of a name: '_' are none, '?' and '!' are no chain's, '#' are as many as there may be.
func valueOf(name byte) []byte {
	switch name {
	case '_':
		return nil
	case '?':
		return []byte{63}
	case '!':
		return []byte{2, 0, 1}
	case '#':
		return slices.Repeat([]byte{1}, 1800)
	}
	b, _ := Encode(chain(name))
	return b
}

func nameOf(b []byte) string {
	for _, name := range []byte("_?!#abcdefghijklmnopqrstuvwxyz") {
		if slices.Equal(b, valueOf(name)) {
			return string(name)
		}
	}
	return fmt.Sprint(b)
}

// told spells what a call told: a chain's name, "none", or an error's number.
func told(l []api.Segment, is bool, e api.Errno) string {
	if (e != api.OK || !is) && len(l) > 0 || e != api.OK && is {
		return fmt.Sprint(l, " beside ", is, " and error ", e)
	}
	if e != api.OK {
		return fmt.Sprint("error ", e)
	}
	if !is {
		return "none"
	}
	b, e := Encode(l)
	if e != api.OK {
		return fmt.Sprint("no chain: ", l)
	}
	return nameOf(b)
}

// op is a call of the package, spelled "propose 2 a" (who, and the chain's name) or "learn 2".
type op struct {
	who  int
	name byte // 0: it is a Learn
}

func opOf(spelled string) op {
	f := strings.Fields(spelled)
	who, _ := strconv.Atoi(f[1])
	if f[0] == "learn" {
		return op{who: who}
	}
	return op{who, f[2][0]}
}

func (o op) of(n *net.Net, version int) string {
	if o.name == 0 {
		return told(Learn(n, version, o.who))
	}
	l, e := Propose(n, version, o.who, chain(o.name))
	return told(l, e == api.OK, e)
}

func newNet(t *testing.T, nodes int) *net.Net {
	t.Helper()
	return netOf(t, nodes, blocks)
}

func netOf(t *testing.T, nodes, blocks int) *net.Net {
	t.Helper()
	n, e := net.New(nodes, blocks)
	if e != api.OK {
		t.Fatalf("9.1: New: %d", e)
	}
	return n
}

// laid is a net whose registers have what is spelled, one behind the other with a '|' between: the promised ballot, and behind a ':' the accepted one with its value's name ("9:5a"); behind these '~' has no room any more, '.' is not up.
func laid(t *testing.T, spelled string) *net.Net {
	t.Helper()
	n := newNet(t, strings.Count(spelled, "|")+1)
	lay(t, n, spelled)
	return n
}

func lay(t *testing.T, n *net.Net, spelled string) {
	t.Helper()
	for to, row := range strings.Split(spelled, "|") {
		record := strings.TrimRight(row, "~.")
		layRecord(t, n, to, record)
		for _, flag := range row[len(record):] {
			switch flag {
			case '~':
				fill(t, n, to)
			case '.':
				mustBe(t, n.Crash(to, disk.Loss{}), api.OK, "9.4: Crash")
			}
		}
	}
}

func layRecord(t *testing.T, n *net.Net, to int, record string) {
	t.Helper()
	promised, accepted, is := strings.Cut(record, ":")
	if is {
		ballot := accepted[:len(accepted)-1]
		mustDo(t, n, to, api.Request{Kind: api.RAccept, At: number(t, ballot), Value: valueOf(accepted[len(ballot)])})
		if ballot == promised {
			return
		}
	}
	if promised != "" {
		mustDo(t, n, to, api.Request{Kind: api.RPrepare, At: number(t, promised)})
	}
}

func number(t *testing.T, spelled string) int {
	t.Helper()
	n, e := strconv.Atoi(spelled)
	if e != nil {
		t.Fatalf("no number: %s", spelled)
	}
	return n
}

// mustDo asks one node's register for something of the version, without weather.
func mustDo(t *testing.T, n *net.Net, to int, r api.Request) {
	t.Helper()
	r.Log = version
	if a, ok := n.Call(to, r); !ok || a.Err != api.OK {
		t.Fatalf("9.2: Call of %d: %v, %v", to, a, ok)
	}
}

// fill writes to a node till there is no room for anything.
func fill(t *testing.T, n *net.Net, to int) {
	t.Helper()
	for _, log := range []int{0, 8, 16, 15} {
		for at := 0; ; at++ {
			a, _ := n.Call(to, api.Request{Kind: api.RWrite, Log: log, At: at, Value: make([]byte, 900)})
			if a.Err == api.ErrFull {
				break
			}
			if a.Err != api.OK {
				t.Fatalf("8.1: a node that is never full: %d", a.Err)
			}
		}
	}
	if a, ok := n.Call(to, api.Request{Kind: api.RPrepare, Log: version, At: 1 << 40}); !ok || a.Err != api.ErrFull {
		t.Fatalf("8.1: a node that is full: %v, %v", a, ok)
	}
}

// shown spells what the registers have, as laid takes it; of a node that is not up just '.', and of no room nothing. A ballot of 1, which no call of the package has, tells it without a change that they can tell, and counts as none.
func shown(t *testing.T, n *net.Net, version int) string {
	t.Helper()
	waits := drained(n)
	var rows []string
	for to := range n.Nodes() {
		a, ok := n.Call(to, api.Request{Kind: api.RPrepare, Log: version, At: 1})
		row := ""
		if !ok {
			row = "."
		}
		if a.Tail > 1 {
			row = fmt.Sprint(a.Tail)
		}
		if a.Ballot > 0 {
			row += fmt.Sprint(":", a.Ballot, nameOf(a.Value))
		}
		rows = append(rows, row)
	}
	n.Weather(waits...)
	return strings.Join(rows, "|")
}

// drained are the numbers that wait no longer.
func drained(n *net.Net) []int {
	var l []int
	for n.Ahead() > 0 {
		l = append(l, []int{0, 4, 5, 6, 7}[n.Fate()])
	}
	return l
}

func mustShow(t *testing.T, n *net.Net, want, why string) {
	t.Helper()
	if got := shown(t, n, version); got != want {
		t.Fatalf("%s: the registers have %s; not %s", why, got, want)
	}
}

func mustBe(t *testing.T, got, want api.Errno, why string) {
	t.Helper()
	if got != want {
		t.Fatalf("%s: error %d; not %d", why, got, want)
	}
}

func mustTell(t *testing.T, got, want, why string) {
	t.Helper()
	if got != want {
		t.Fatalf("%s: told is %s; not %s", why, got, want)
	}
}

// mustCall says how many calls are made; no number waits behind it.
func mustCall(t *testing.T, n *net.Net, want int, why string, do func()) {
	t.Helper()
	was := n.Ahead()
	n.Weather(make([]int, 100)...)
	do()
	if got := was + 100 - len(drained(n)); got != want {
		t.Fatalf("%s: %d calls; not %d", why, got, want)
	}
}

// asked are the calls that an operation makes, in their order. Each is seen in a run of its own, in which it is delayed behind those ahead of it, whose fates are the weather's.
func asked(t *testing.T, rows string, weather []int, o op) []string {
	t.Helper()
	var l []string
	for len(l) < 100 {
		n := laid(t, rows)
		fates := append(slices.Clone(weather), make([]int, len(l))...)[:len(l)]
		n.Weather(append(fates, 6)...)
		o.of(n, version)
		if n.Ahead() > 0 {
			return l
		}
		late := n.Late()
		l = append(l, spelledCall(t, late[len(late)-1]))
	}
	t.Fatal("11: an operation that does not end")
	return nil
}

func spelledCall(t *testing.T, l net.Late) string {
	t.Helper()
	r := l.Request
	if r.Log != version {
		t.Fatalf("11.2: a call of the version %d; not %d", r.Log, version)
	}
	switch {
	case r.Kind == api.RPrepare && len(r.Value) == 0:
		return fmt.Sprint(l.Node, " prepare ", r.At)
	case r.Kind == api.RAccept:
		return fmt.Sprint(l.Node, " accept ", r.At, " ", nameOf(r.Value))
	}
	return fmt.Sprint(l)
}

// losses are ways to lose power: open writes kept, lost and torn.
func losses(after int) []disk.Loss {
	return []disk.Loss{
		{After: after, Torn: -1}, {After: after, Keep: keepAll, Torn: -1}, {After: after, Keep: 0x5555555555555555, Torn: -1},
		{After: after, Torn: 0, Cut: 11}, {After: after, Keep: keepAll, Torn: 0, Cut: 8191}, {After: after, Keep: keepAll, Torn: 1, Cut: 5},
	}
}

func restartAll(n *net.Net) {
	for to := range n.Nodes() {
		n.Restart(to)
	}
}

func deliverAll(n *net.Net) {
	for n.Deliver(0) == api.OK {
	}
}

// spoil turns all of what was told or handed in, its spare room too.
func spoil(l []api.Segment) {
	l = l[:cap(l)]
	for i := range l {
		l[i] = api.Segment{Log: 7, Start: -7, End: 7, Owner: 77}
	}
}
