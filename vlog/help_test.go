package vlog

import (
	"fmt"
	"math"
	"slices"
	"strconv"
	"strings"
	"testing"

	"headland/api"
	"headland/disk"
	"headland/meta"
	"headland/net"
)

const (
	blocks  = 48
	keepAll = 1<<64 - 1
)

// noServers are numbers of no server.
var noServers = []int{math.MinInt, -4, -1, 4, 5, 8, math.MaxInt}

// chainOf is the chain that is spelled: of each segment how many positions it has and, behind an '@', its owner; the last one has no number. "2@0 @1" is {0 0 2 0} {1 2 -1 1}.
func chainOf(t *testing.T, spelled string) []api.Segment {
	t.Helper()
	var l []api.Segment
	start := 0
	for i, word := range strings.Fields(spelled) {
		places, owner, _ := strings.Cut(word, "@")
		s := api.Segment{Log: i, Start: start, End: -1, Owner: number(t, owner)}
		if places != "" {
			s.End = start + number(t, places)
		}
		l, start = append(l, s), s.End
	}
	return l
}

// spelledChain spells a chain; of what is none all its numbers.
func spelledChain(l []api.Segment) string {
	if !meta.Right(l) {
		return fmt.Sprint("no chain: ", l)
	}
	var words []string
	for _, s := range l {
		if s.End == -1 {
			words = append(words, fmt.Sprint("@", s.Owner))
		} else {
			words = append(words, fmt.Sprint(s.End-s.Start, "@", s.Owner))
		}
	}
	return strings.Join(words, " ")
}

func number(t *testing.T, spelled string) int {
	t.Helper()
	n, e := strconv.Atoi(spelled)
	if e != nil {
		t.Fatalf("no number: %q", spelled)
	}
	return n
}

// numbers are the digits that are spelled, with blanks between as one likes.
func numbers(spelled string) []int {
	var l []int
	for _, r := range strings.ReplaceAll(spelled, " ", "") {
		l = append(l, int(r-'0'))
	}
	return l
}

// player is a Log, or what is held against one.
type player interface {
	Version() int
	Chain() []api.Segment
	Refresh() api.Errno
	Owns() bool
	Owner() int
	Append(b []byte) (int, api.Errno)
	Tail() (int, api.Errno)
	Read(pos int) ([]byte, api.Errno)
	Change() api.Errno
	Trim(below int) api.Errno
}

// knows spells what a Log knows: "1: 2@0 @1 +" is the version 1, its chain, and that it owns.
func knows(v player) string {
	l := v.Chain()
	s := fmt.Sprint(v.Version(), ": ", spelledChain(l))
	if v.Owner() != l[len(l)-1].Owner {
		s += fmt.Sprint(" owner ", v.Owner())
	}
	if v.Owns() {
		s += " +"
	}
	return s
}

// told is what the operation tells that is spelled: "append x", "tail", "read 3", "change", "trim 2", "refresh".
func told(t *testing.T, v player, spelled string) string {
	t.Helper()
	op, rest, _ := strings.Cut(spelled, " ")
	switch op {
	case "append":
		at, e := v.Append(valueOf(rest))
		return toldOf(at, e, 0)
	case "tail":
		at, e := v.Tail()
		return toldOf(at, e, 0)
	case "read":
		b, e := v.Read(number(t, rest))
		return toldOf(brief(b), e, "")
	case "change":
		return toldOf("ok", v.Change(), "ok")
	case "refresh":
		return toldOf("ok", v.Refresh(), "ok")
	case "trim":
		return toldOf("ok", v.Trim(number(t, rest)), "ok")
	}
	t.Fatalf("no operation: %s", spelled)
	return ""
}

func toldOf[T comparable](what T, e api.Errno, none T) string {
	switch {
	case e == api.OK:
		return fmt.Sprint(what)
	case what != none:
		return fmt.Sprint(what, " beside error ", e)
	}
	return fmt.Sprint("error ", e)
}

// valueOf is a value that is spelled: its letters, or behind a '#' how many bytes it has.
func valueOf(spelled string) []byte {
	if count, is := strings.CutPrefix(spelled, "#"); is {
		n, _ := strconv.Atoi(count)
		return slices.Repeat([]byte{'#'}, n)
	}
	return []byte(spelled)
}

func brief(b []byte) string {
	if len(b) > 20 {
		return fmt.Sprint("#", len(b))
	}
	return string(b)
}

// cast is a net and the Logs of all servers: a to d, of who 0 to 3. Just a is made with first.
type cast struct {
	n    *net.Net
	logs [4]*Log
}

func newCast(t *testing.T, nodes int) *cast {
	t.Helper()
	return castOf(t, netOf(t, nodes, blocks))
}

func castOf(t *testing.T, n *net.Net) *cast {
	t.Helper()
	c := &cast{n: n}
	for who := range c.logs {
		c.logs[who] = newLog(t, n, who, who == 0)
	}
	return c
}

func netOf(t *testing.T, nodes, blocks int) *net.Net {
	t.Helper()
	n, e := net.New(nodes, blocks)
	if e != api.OK {
		t.Fatalf("9.1: New: %d", e)
	}
	return n
}

func newLog(t *testing.T, n *net.Net, who int, first bool) *Log {
	t.Helper()
	v, e := New(n, who, first)
	if v == nil || e != api.OK {
		t.Fatalf("12.1: New(%d, %v): %v, %d", who, first, v, e)
	}
	return v
}

// of is the Log of a server's letter.
func (c *cast) of(letter byte) *Log { return c.logs[letter-'a'] }

// do is what a server tells, spelled with its letter first: "b append x"; "b new" opens it anew.
func (c *cast) do(t *testing.T, spelled string) string {
	t.Helper()
	if who := int(spelled[0] - 'a'); spelled[2:] == "new" {
		c.logs[who] = newLog(t, c.n, who, false)
		return "ok"
	}
	return told(t, c.of(spelled[0]), spelled[2:])
}

// line is one thing that happens: in which weather, what a server is asked, what it tells, and what it knows behind it.
type line struct {
	weather string
	do      string
	told    string
	knows   string // "": it is not asked
}

// play does line by line.
func (c *cast) play(t *testing.T, promise string, l []line) {
	t.Helper()
	for i, one := range l {
		why := fmt.Sprint(promise, ": line ", i, ", ", one.do, " in ", one.weather)
		c.n.Weather(numbers(one.weather)...)
		mustTell(t, c.do(t, one.do), one.told, why)
		if one.knows != "" {
			mustKnow(t, c.of(one.do[0]), one.knows, why)
		}
		if c.n.Ahead() > 0 {
			t.Fatalf("%s: %d numbers wait still", why, c.n.Ahead())
		}
	}
}

func mustTell(t *testing.T, got, want, why string) {
	t.Helper()
	if got != want {
		t.Fatalf("%s: told is %s; not %s", why, got, want)
	}
}

func mustKnow(t *testing.T, v player, want, why string) {
	t.Helper()
	if got := knows(v); got != want {
		t.Fatalf("%s: it knows %s; not %s", why, got, want)
	}
}

func mustBe(t *testing.T, got, want api.Errno, why string) {
	t.Helper()
	if got != want {
		t.Fatalf("%s: error %d; not %d", why, got, want)
	}
}

// mustCall says how many calls are made; no number waits behind it.
func mustCall(t *testing.T, n *net.Net, want int, why string, do func()) {
	t.Helper()
	was := n.Ahead()
	n.Weather(make([]int, 1000)...)
	do()
	if got := was + 1000 - n.Ahead(); got != want {
		t.Fatalf("%s: %d calls; not %d", why, got, want)
	}
	calm(n)
}

// calm lets no number wait.
func calm(n *net.Net) {
	for n.Ahead() > 0 {
		n.Fate()
	}
}

// mustDo asks one node for something, without weather.
func mustDo(t *testing.T, n *net.Net, to int, r api.Request) {
	t.Helper()
	if a, ok := n.Call(to, r); !ok || a.Err != api.OK {
		t.Fatalf("9.2: Call of %d: %v, %v", to, a, ok)
	}
}

// lay lets the nodes have of a loglet what is spelled, one behind the other with a '|' between: a letter is a slot's value, '-' a slot that is trimmed; behind these '!' is sealed, '.' is not up.
func lay(t *testing.T, n *net.Net, log int, spelled string) {
	t.Helper()
	for to, row := range strings.Split(spelled, "|") {
		slots := strings.TrimRight(row, "!.")
		for at := range len(slots) {
			mustDo(t, n, to, api.Request{Kind: api.RWrite, Log: log, At: at, Value: []byte{slots[at]}})
		}
		if gone := strings.Count(slots, "-"); gone > 0 {
			mustDo(t, n, to, api.Request{Kind: api.RTrim, Log: log, At: gone})
		}
		for _, flag := range row[len(slots):] {
			switch flag {
			case '!':
				mustDo(t, n, to, api.Request{Kind: api.RSeal, Log: log})
			case '.':
				mustBe(t, n.Crash(to, disk.Loss{}), api.OK, "9.4: Crash")
			}
		}
	}
}

// shown spells what the nodes have of a loglet, as lay takes it; of a node that is not up just '.'.
func shown(t *testing.T, n *net.Net, log int) string {
	t.Helper()
	var rows []string
	for to := range n.Nodes() {
		if !n.Up(to) {
			rows = append(rows, ".")
			continue
		}
		s, _ := n.Look(to, api.Request{Kind: api.RState, Log: log})
		row := strings.Repeat("-", s.Trimmed)
		for at := s.Trimmed; at < s.Tail; at++ {
			a, _ := n.Look(to, api.Request{Kind: api.RRead, Log: log, At: at})
			row += brief(a.Value)
		}
		if s.Sealed {
			row += "!"
		}
		rows = append(rows, row)
	}
	return strings.Join(rows, "|")
}

func mustShow(t *testing.T, n *net.Net, log int, want, why string) {
	t.Helper()
	if got := shown(t, n, log); got != want {
		t.Fatalf("%s: the nodes have of loglet %d %s; not %s", why, log, got, want)
	}
}

// accept lets the registers of some nodes have a chain of a version, with a ballot that no call of meta has; without nodes all of them have it.
func accept(t *testing.T, n *net.Net, version int, spelled string, nodes ...int) {
	t.Helper()
	b, e := meta.Encode(chainOf(t, spelled))
	mustBe(t, e, api.OK, "11.1: Encode of "+spelled)
	acceptBytes(t, n, version, b, nodes...)
}

func acceptBytes(t *testing.T, n *net.Net, version int, b []byte, nodes ...int) {
	t.Helper()
	if len(nodes) == 0 {
		nodes = []int{0, 1, 2, 3, 4}[:n.Nodes()]
	}
	for _, to := range nodes {
		mustDo(t, n, to, api.Request{Kind: api.RAccept, Log: version, At: 1, Value: b})
	}
}

// set is a net whose loglets have what is spelled, by their numbers, and whose registers have chains, from the version 1 on: "" is none, "1/2@0 @1" is one that node 1 alone has.
func set(t *testing.T, rows []string, chains []string) *cast {
	t.Helper()
	c := castOf(t, netOf(t, 3, 64))
	for i, spelled := range chains {
		layChain(t, c.n, i+1, spelled)
	}
	for log, row := range rows {
		lay(t, c.n, log, row)
	}
	return c
}

func layChain(t *testing.T, n *net.Net, version int, spelled string) {
	t.Helper()
	node, few, is := strings.Cut(spelled, "/")
	switch {
	case is && few == "?":
		acceptBytes(t, n, version, []byte{63}, number(t, node))
	case is:
		accept(t, n, version, few, number(t, node))
	case spelled != "":
		accept(t, n, version, spelled)
	}
}

// decide lets a version's chain be decided, whatever was promised.
func decide(t *testing.T, n *net.Net, version int, spelled string) {
	t.Helper()
	l, e := meta.Propose(n, version, 3, chainOf(t, spelled))
	mustBe(t, e, api.OK, "11.2: Propose of "+spelled)
	mustTell(t, spelledChain(l), spelled, "11.2: Propose")
}

// long is the chain of a version: each segment has one position more than the one ahead, from none on, and another owner.
func long(version int) string {
	s := ""
	for i := range version {
		s += fmt.Sprint(i, "@", (i+3)%4, " ")
	}
	return s + fmt.Sprint("@", (version+3)%4)
}

// asked are the calls that an operation makes, in their order. Each is seen in a run of its own, in which it is delayed behind those ahead of it, whose fates are the weather's.
func asked(t *testing.T, weather string, start func() *cast, do string) string {
	t.Helper()
	var l []string
	for len(l) < 200 {
		c := start()
		fates := append(numbers(weather), make([]int, len(l))...)[:len(l)]
		was := len(c.n.Late())
		c.n.Weather(append(fates, 6)...)
		c.do(t, do)
		if c.n.Ahead() > 0 {
			return strings.Join(l, ", ")
		}
		late := c.n.Late()[was:]
		l = append(l, spelledCall(late[len(late)-1]))
	}
	t.Fatal("12: an operation that does not end")
	return ""
}

// spelledCall spells a call: the node, what is asked, the loglet or the version, and what goes with it.
func spelledCall(l net.Late) string {
	r := l.Request
	kind := []string{"?", "write", "fix", "seal", "state", "read", "trim", "prepare", "accept"}[r.Kind]
	s := fmt.Sprint(l.Node, " ", kind, " ", r.Log)
	switch r.Kind {
	case api.RWrite, api.RFix:
		return fmt.Sprint(s, " ", r.At, " ", brief(r.Value))
	case api.RRead, api.RTrim, api.RPrepare:
		return fmt.Sprint(s, " ", r.At)
	case api.RAccept:
		chain, _ := meta.Decode(r.Value)
		return fmt.Sprint(s, " ", r.At, " ", spelledChain(chain))
	}
	return s
}

// losses are ways to lose power: open writes kept, lost and torn.
func losses(after int) []disk.Loss {
	return []disk.Loss{
		{After: after, Torn: -1}, {After: after, Keep: keepAll, Torn: -1}, {After: after, Keep: 0x5555555555555555, Torn: -1},
		{After: after, Torn: 0, Cut: 11}, {After: after, Keep: keepAll, Torn: 0, Cut: 8191}, {After: after, Keep: keepAll, Torn: 1, Cut: 5},
	}
}

func restartAll(n *net.Net) {
	for to := range n.Nodes() {
		n.Restart(to)
	}
}

func crashAll(n *net.Net) {
	for to := range n.Nodes() {
		n.Crash(to, disk.Loss{})
	}
}

func deliverAll(n *net.Net) {
	for n.Deliver(0) == api.OK {
	}
}
