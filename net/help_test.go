package net

import (
	"fmt"
	"math"
	"slices"
	"strings"
	"testing"

	"headland/api"
	"headland/disk"
	"headland/node"
	"headland/page"
)

const (
	keepAll = 1<<64 - 1
	blocks  = 24
)

var longest = strings.Repeat("v", 1799) + "w"

// outside are numbers of no node, whatever net it is.
var outside = []int{math.MinInt, -6, -1, 5, 6, math.MaxInt}

func newNet(t *testing.T, nodes int) *Net {
	t.Helper()
	n, e := New(nodes, blocks)
	if n == nil || e != api.OK {
		t.Fatalf("9.1: New(%d, %d): %v, %d", nodes, blocks, n, e)
	}
	return n
}

func ask(kind, log, at int, value string) api.Request {
	return api.Request{Kind: kind, Log: log, At: at, Value: []byte(value)}
}

func write(log, at int, value string) api.Request { return ask(api.RWrite, log, at, value) }

func fix(log, at int, value string) api.Request { return ask(api.RFix, log, at, value) }

func seal(log int) api.Request { return ask(api.RSeal, log, 0, "") }

func state(log int) api.Request { return ask(api.RState, log, 0, "") }

func readAt(log, at int) api.Request { return ask(api.RRead, log, at, "") }

func trim(log, at int) api.Request { return ask(api.RTrim, log, at, "") }

func prepare(log, at int) api.Request { return ask(api.RPrepare, log, at, "") }

func accept(log, at int, value string) api.Request { return ask(api.RAccept, log, at, value) }

// before is what nodes are asked first.
func before() []api.Request {
	return []api.Request{write(1, 0, "a"), write(1, 1, longest), write(2, 0, "c"), seal(2), trim(2, 1), accept(1, 5, "v"), prepare(2, 9)}
}

// some are requests of each kind behind that, done and refused, and such that there are not.
func some() []api.Request {
	return []api.Request{
		write(1, 2, "new"), write(1, 0, "other"), write(1, 9, "gap"), write(2, 1, "sealed"), write(1, 256, "x"), write(1, 2, longest), write(1, 2, longest+"x"),
		fix(2, 1, "new"), fix(1, 2, "open"), seal(1), seal(2), seal(16), state(0), state(1), state(2), readAt(1, 1), readAt(1, 2), readAt(2, 0), trim(1, 1), trim(1, 3), trim(2, 0),
		prepare(1, 6), prepare(2, 9), prepare(3, 1), prepare(1, 0), accept(1, 5, "other"), accept(1, 4, "late"), accept(3, 2, longest), accept(3, 2, ""),
		ask(0, 1, 0, ""), ask(-1, 1, 0, "v"), ask(9, 1, 0, "v"), write(-1, 0, "v"), state(17), readAt(1, -1), ask(api.RState, 1, 0, longest+"x"), ask(math.MaxInt, math.MinInt, math.MaxInt, "v"),
	}
}

func spelled(r api.Request) string {
	return fmt.Sprintf("request %d(%d, %d, %s)", r.Kind, r.Log, r.At, short(r.Value))
}

func short(b []byte) string {
	if len(b) > 20 {
		return fmt.Sprintf("%.3s.. (%d bytes)", b, len(b))
	}
	return string(b)
}

func told(a api.Answer, ok bool) string {
	return fmt.Sprintf("%v: error %d, tail %d, sealed %v, trimmed %d, ballot %d, value %q", ok, a.Err, a.Tail, a.Sealed, a.Trimmed, a.Ballot, a.Value)
}

func mustTell(t *testing.T, a api.Answer, ok bool, want api.Answer, why string) {
	t.Helper()
	if got, right := told(a, ok), told(want, true); got != right {
		t.Fatalf("%s: %s; not %s", why, got, right)
	}
}

func mustTellNone(t *testing.T, a api.Answer, ok bool, why string) {
	t.Helper()
	if got, right := told(a, ok), told(api.Answer{}, false); got != right {
		t.Fatalf("%s: %s; not %s", why, got, right)
	}
}

func mustBe(t *testing.T, got, want api.Errno, why string) {
	t.Helper()
	if got != want {
		t.Fatalf("%s: %d; not %d", why, got, want)
	}
}

func mustWait(t *testing.T, n *Net, want int, why string) {
	t.Helper()
	if got := n.Ahead(); got != want {
		t.Fatalf("%s: %d numbers wait; not %d", why, got, want)
	}
}

func mustBeUp(t *testing.T, n *Net, want []bool, why string) {
	t.Helper()
	for to, up := range want {
		if n.Up(to) != up {
			t.Fatalf("%s: node %d is up: %v; not %v", why, to, !up, up)
		}
	}
}

// mustBeLate says all that is late: to is the nodes, l the requests.
func mustBeLate(t *testing.T, n *Net, to []int, l []api.Request, why string) {
	t.Helper()
	var want []string
	for i, r := range l {
		want = append(want, fmt.Sprint(to[i], " ", spelled(r)))
	}
	mustBeLateAs(t, n, want, why)
}

func mustBeLateAs(t *testing.T, n *Net, want []string, why string) {
	t.Helper()
	var got []string
	for _, l := range n.Late() {
		got = append(got, fmt.Sprint(l.Node, " ", spelled(l.Request)))
	}
	if !slices.Equal(got, want) {
		t.Fatalf("%s: late is %q; not %q", why, got, want)
	}
}

// image is all that a disk with power holds: what its blocks read as, and how many writes are open.
func image(t *testing.T, d *disk.Disk) string {
	t.Helper()
	if d.Down() {
		t.Fatal("a disk without power shows nothing")
	}
	var b strings.Builder
	b.Grow(d.Blocks()*api.Block + 20)
	for at := range d.Blocks() {
		block, e := d.Read(at)
		if e != api.OK {
			t.Fatalf("3.2: Read(%d): %d", at, e)
		}
		b.Write(block)
	}
	fmt.Fprint(&b, d.Open())
	return b.String()
}

// images are those of all nodes' disks; of one without power how often that went.
func images(t *testing.T, n *Net) []string {
	t.Helper()
	var l []string
	for _, h := range n.hosts {
		if h.disk.Down() {
			l = append(l, fmt.Sprint("down ", h.disk.Life()))
			continue
		}
		l = append(l, image(t, h.disk))
	}
	return l
}

// mustStay says that no node's disk is another one than it was.
func mustStay(t *testing.T, n *Net, was []string, why string) {
	t.Helper()
	for to, now := range images(t, n) {
		if now != was[to] {
			t.Fatalf("%s: what node %d keeps is changed", why, to)
		}
	}
}

// twin is a node without a net. One that did the same holds the same bytes, so it shows what a net's node did, and how often.
type twin struct {
	disk *disk.Disk
	node *node.Node
}

func newTwin(t *testing.T, l ...api.Request) *twin {
	t.Helper()
	d, e := disk.New(blocks)
	if e != api.OK {
		t.Fatalf("3.1: New: %d", e)
	}
	w := &twin{disk: d}
	w.open(t)
	for _, r := range l {
		w.node.Do(r)
	}
	return w
}

func (w *twin) open(t *testing.T) {
	t.Helper()
	w.disk.Restart()
	n, e := node.Open(w.disk)
	if e != api.OK {
		t.Fatalf("8.1: Open: %d", e)
	}
	w.node = n
}

// mustBeTwin says that a net's node did what its twin did.
func mustBeTwin(t *testing.T, n *Net, to int, w *twin, why string) {
	t.Helper()
	if image(t, n.hosts[to].disk) != image(t, w.disk) {
		t.Fatalf("%s: node %d did not what is asked", why, to)
	}
	for log := range api.MaxVersions + 1 {
		a, ok := n.Look(to, state(log))
		want := w.node.Do(state(log))
		mustTell(t, a, ok, want, fmt.Sprint(why, ": loglet ", log))
		for at := range want.Tail + 1 {
			a, ok := n.Look(to, readAt(log, at))
			mustTell(t, a, ok, w.node.Do(readAt(log, at)), fmt.Sprint(why, ": loglet ", log, ", slot ", at))
		}
	}
}

// laidOn asks all nodes for the same, without weather.
func laidOn(t *testing.T, n *Net, l ...api.Request) *Net {
	t.Helper()
	for to := range n.Nodes() {
		for _, r := range l {
			if a, ok := n.Call(to, r); !ok || a.Err != api.OK {
				t.Fatalf("9.2: %s: %s", spelled(r), told(a, ok))
			}
		}
	}
	return n
}

// delayed lets some requests be late at a node.
func delayed(t *testing.T, n *Net, to int, l ...api.Request) {
	t.Helper()
	for _, r := range l {
		n.Weather(6)
		a, ok := n.Call(to, r)
		mustTellNone(t, a, ok, "9.2: delayed")
	}
}

// commits is how often a node's store was turned.
func commits(t *testing.T, n *Net, to int) int {
	t.Helper()
	s, e := page.Open(n.hosts[to].disk)
	if e != api.OK {
		t.Fatalf("4.1: Open: %d", e)
	}
	return s.Number()
}

// losses are ways to lose power: open writes kept, lost and torn.
func losses(after int) []disk.Loss {
	return []disk.Loss{
		{After: after, Torn: -1}, {After: after, Keep: keepAll, Torn: -1}, {After: after, Keep: 0x5555555555555555, Torn: -1},
		{After: after, Torn: 0, Cut: 11}, {After: after, Keep: keepAll, Torn: 0, Cut: 8191}, {After: after, Keep: keepAll, Torn: 1, Cut: 5},
	}
}
