package loglet

import (
	"fmt"
	"math/rand"
	"testing"

	"headland/api"
	"headland/disk"
	"headland/net"
)

// model is a Writer as the chapter's words say it, over a net of its own to which the same is done.
type model struct {
	n     *net.Net
	log   int
	row   []string
	known map[int]int
	done  int
	over  bool
}

func (m *model) push() api.Errno {
	long := len(m.row)
	if m.done == long {
		return api.OK
	}
	if m.over {
		return api.ErrSealed
	}
	for to := 0; to < m.n.Nodes(); to++ {
		for {
			was := m.known[to]
			if was >= long {
				break
			}
			a, taken := m.n.Call(to, api.Request{Kind: api.RWrite, Log: m.log, At: was, Value: []byte(m.row[was])})
			if taken && a.Err == api.ErrSealed {
				m.over = true
			}
			if !taken || a.Err != api.OK {
				break
			}
			if m.known[to] = a.Tail; a.Tail > long {
				m.known[to] = long
			}
			if m.known[to] <= was {
				break
			}
		}
	}
	all := 0
	for _, k := range m.known {
		if k == long {
			all++
		}
	}
	if all >= m.n.Major() {
		m.done = long
		return api.OK
	}
	if m.over {
		return api.ErrSealed
	}
	return api.ErrTimeout
}

func (m *model) append(v string) (int, api.Errno) {
	if len(v) > 1800 {
		return 0, api.ErrLong
	}
	if m.over {
		return 0, api.ErrSealed
	}
	if m.done < len(m.row) {
		if e := m.push(); e != api.OK {
			return 0, e
		}
	}
	if len(m.row) == 256 {
		return 0, api.ErrMany
	}
	m.row = append(m.row, v)
	if e := m.push(); e != api.OK {
		return 0, e
	}
	return len(m.row) - 1, api.OK
}

// modelEnd is Tail (by RState and RWrite) or Close (by RSeal and RFix).
func modelEnd(n *net.Net, log, first, second int) (int, api.Errno) {
	has := map[int]int{}
	sealed := false
	for to := 0; to < n.Nodes(); to++ {
		a, taken := n.Call(to, api.Request{Kind: first, Log: log})
		if taken && a.Err == api.OK {
			has[to] = a.Tail
			sealed = sealed || a.Sealed
		}
	}
	if len(has) < n.Major() {
		return 0, api.ErrTimeout
	}
	if first == api.RState && sealed {
		return 0, api.ErrSealed
	}
	most, source := 0, -1
	for to := n.Nodes() - 1; to >= 0; to-- {
		if tail, taken := has[to]; taken && tail >= most {
			most, source = tail, to
		}
	}
	for to := 0; to < n.Nodes(); to++ {
		tail, taken := has[to]
		for at := tail; taken && at < most; at++ {
			v, ok := n.Call(source, api.Request{Kind: api.RRead, Log: log, At: at})
			if !ok || v.Err != api.OK {
				break
			}
			a, ok := n.Call(to, api.Request{Kind: second, Log: log, At: at, Value: v.Value})
			if !ok || a.Err != api.OK || a.Tail != at+1 {
				break
			}
			has[to] = a.Tail
		}
	}
	all := 0
	for _, tail := range has {
		if tail == most {
			all++
		}
	}
	if all < n.Major() {
		return 0, api.ErrTimeout
	}
	return most, api.OK
}

func modelRead(n *net.Net, log, at int) (string, api.Errno) {
	if at < 0 {
		return "", api.ErrArg
	}
	count := map[api.Errno]int{}
	for to := 0; to < n.Nodes(); to++ {
		a, taken := n.Call(to, api.Request{Kind: api.RRead, Log: log, At: at})
		if taken && a.Err == api.OK {
			return string(a.Value), api.OK
		}
		if taken {
			count[a.Err]++
		}
	}
	if count[api.ErrTrimmed] > 0 {
		return "", api.ErrTrimmed
	}
	if count[api.ErrNone] >= n.Major() {
		return "", api.ErrNone
	}
	return "", api.ErrTimeout
}

func modelTrim(n *net.Net, log, below int) api.Errno {
	if below < 0 || below > 256 {
		return api.ErrArg
	}
	all := 0
	for to := 0; to < n.Nodes(); to++ {
		if a, taken := n.Call(to, api.Request{Kind: api.RTrim, Log: log, At: below}); taken && a.Err == api.OK {
			all++
		}
	}
	if all < n.Major() {
		return api.ErrTimeout
	}
	return api.OK
}

// both are two nets to which the same is done: one by the package, the other one by the model.
type both struct {
	n, m    *net.Net
	writers []*Writer
	models  []*model
}

// logs are the loglets that both have Writers of; two of one loglet know nothing of each other, so that nodes have more than a row.
var logs = []int{3, 3, 4}

func newBoth(t *testing.T, nodes int) *both {
	t.Helper()
	b := &both{n: newNet(t, nodes), m: newNet(t, nodes)}
	for range logs {
		b.writers, b.models = append(b.writers, nil), append(b.models, nil)
	}
	for i := range logs {
		b.renew(t, i)
	}
	return b
}

// renew lets a Writer be a new one.
func (b *both) renew(t *testing.T, i int) {
	t.Helper()
	w, e := New(b.n, logs[i])
	mustBe(t, e, api.OK, "10.1: New")
	b.writers[i] = w
	b.models[i] = &model{n: b.m, log: logs[i], known: map[int]int{}}
	for to := 0; to < b.m.Nodes(); to++ {
		b.models[i].known[to] = 0
	}
}

func (b *both) mustBeSame(t *testing.T, why string) {
	t.Helper()
	if b.n.Ahead() != b.m.Ahead() {
		t.Fatalf("%s: %d numbers wait; not %d", why, b.n.Ahead(), b.m.Ahead())
	}
	if got, want := fmt.Sprint(b.n.Late()), fmt.Sprint(b.m.Late()); got != want {
		t.Fatalf("%s: late are %s; not %s", why, got, want)
	}
	for _, l := range logs[1:] {
		if got, want := shown(t, b.n, l), shown(t, b.m, l); got != want {
			t.Fatalf("%s: loglet %d has %s; not %s", why, l, got, want)
		}
	}
	for i, w := range b.writers {
		m := b.models[i]
		if w.Log() != m.log || w.Len() != len(m.row) || w.Done() != m.done || w.Over() != m.over {
			t.Fatalf("%s: Writer %d: Log %d, Len %d, Done %d, Over %v; not %v", why, i, w.Log(), w.Len(), w.Done(), w.Over(), m)
		}
	}
}

// ask does one call of the package, and says that it tells what the model tells.
func (b *both) ask(t *testing.T, r *rand.Rand, why string) {
	t.Helper()
	i := r.Intn(len(logs))
	l, w, m := logs[i], b.writers[i], b.models[i]
	at := r.Intn(10) - 1
	switch r.Intn(12) {
	case 0:
		mustBe(t, w.Push(), m.push(), why+": Push")
	case 1, 2:
		got, e := Tail(b.n, l)
		want, err := modelEnd(b.m, l, api.RState, api.RWrite)
		mustTell(t, got, e, want, err, why+": Tail")
	case 3:
		if r.Intn(4) == 0 {
			got, e := Close(b.n, l)
			want, err := modelEnd(b.m, l, api.RSeal, api.RFix)
			mustTell(t, got, e, want, err, why+": Close")
		}
	case 4, 5:
		v, e := Read(b.n, l, at)
		want, err := modelRead(b.m, l, at)
		if string(v) != want || e != err {
			t.Fatalf("%s: Read(%d): %s, %d; not %s, %d", why, at, v, e, want, err)
		}
	case 6:
		if r.Intn(3) == 0 {
			mustBe(t, Trim(b.n, l, at), modelTrim(b.m, l, at), why+": Trim")
		}
	default:
		v := fmt.Sprint(r.Intn(100))
		if r.Intn(20) == 0 {
			v = longest + v[:r.Intn(2)]
		}
		got, e := w.Append([]byte(v))
		want, err := m.append(v)
		mustTell(t, got, e, want, err, why+": Append")
	}
}

// happen does to both nets what happens to nets.
func (b *both) happen(t *testing.T, r *rand.Rand, why string) {
	t.Helper()
	to, i := r.Intn(b.n.Nodes()), r.Intn(len(b.n.Late())+1)
	all := losses(1 + r.Intn(9))
	l := all[r.Intn(len(all))]
	same := func(do func(n *net.Net) api.Errno) { mustBe(t, do(b.n), do(b.m), why) }
	switch r.Intn(9) {
	case 0, 1, 2:
		numbers := []int{r.Intn(8), r.Intn(8), r.Intn(8), r.Intn(8), r.Intn(8), r.Intn(8)}[:r.Intn(7)]
		b.n.Weather(numbers...)
		b.m.Weather(numbers...)
	case 3:
		same(func(n *net.Net) api.Errno { return n.Deliver(i) })
	case 4:
		same(func(n *net.Net) api.Errno { return n.Drop(i) })
	case 5, 6:
		same(func(n *net.Net) api.Errno { return n.Restart(to) })
	case 7:
		if r.Intn(2) == 0 {
			same(func(n *net.Net) api.Errno { return n.Crash(to, l) })
		} else {
			same(func(n *net.Net) api.Errno { return n.Arm(to, l) })
		}
	case 8:
		q := api.Request{Kind: api.RWrite + r.Intn(3), Log: logs[r.Intn(3)], At: r.Intn(5), Value: []byte("?")}
		if q.Kind == api.RSeal && r.Intn(5) > 0 {
			q.Kind = api.RTrim
		}
		same(func(n *net.Net) api.Errno {
			a, _ := n.Call(to, q)
			return a.Err
		})
	}
}

func TestModel(t *testing.T) {
	for seed := range int64(60) {
		r := rand.New(rand.NewSource(seed))
		b := newBoth(t, 1+int(seed%5))
		for i := range 120 {
			why := fmt.Sprint("10: seed ", seed, ", step ", i)
			if r.Intn(5) < 2 {
				b.happen(t, r, why)
			} else {
				b.ask(t, r, why)
			}
			if r.Intn(60) == 0 {
				b.renew(t, r.Intn(len(logs)))
			}
			b.mustBeSame(t, why)
		}
	}
}

// TestPowerAtAnyWrite of one node while each call runs: it is told, and kept, what the model says.
func TestPowerAtAnyWrite(t *testing.T) {
	calls := map[string]func(b *both, i int){
		"Append": func(b *both, i int) { b.writers[i].Append([]byte("z")); b.models[i].append("z") },
		"Push":   func(b *both, i int) { b.writers[i].Push(); b.models[i].push() },
		"Tail":   func(b *both, i int) { Tail(b.n, logs[i]); modelEnd(b.m, logs[i], api.RState, api.RWrite) },
		"Close":  func(b *both, i int) { Close(b.n, logs[i]); modelEnd(b.m, logs[i], api.RSeal, api.RFix) },
		"Trim":   func(b *both, i int) { Trim(b.n, logs[i], 1); modelTrim(b.m, logs[i], 1) },
	}
	for name, call := range calls {
		cuts := 0
		for to := range 3 {
			for after, cut := 1, true; cut; after++ {
				cut = false
				for _, l := range losses(after) {
					why := fmt.Sprint("10: ", name, ", node ", to, ", ", l)
					b := lagging(t)
					b.n.Arm(to, l)
					b.m.Arm(to, l)
					call(b, 0)
					b.mustBeSame(t, why)
					cut = cut || !b.n.Up(to)
					restartAll(b.n)
					restartAll(b.m)
					b.mustBeSame(t, why+", opened anew")
					call(b, 0)
					b.mustBeSame(t, why+", and once more")
				}
				if cut {
					cuts++
				}
			}
		}
		if cuts < 8 {
			t.Errorf("10: %s: power went at %d writes alone", name, cuts)
		}
	}
}

// lagging is a row of which a node lacks much, and another one its last value.
func lagging(t *testing.T) *both {
	t.Helper()
	b := newBoth(t, 3)
	for i, weather := range [][]int{nil, {0, 0, 4}, {0, 0, 4}, {0, 4, 4}} {
		v := string('a' + rune(i))
		b.n.Weather(weather...)
		b.m.Weather(weather...)
		b.writers[0].Append([]byte(v))
		b.models[0].append(v)
	}
	mustShow(t, b.n, "abcd|abc|a", "10.2: a row of which nodes lack much")
	b.mustBeSame(t, "10.2: a row of which nodes lack much")
	return b
}

// TestTheSameForTheSame: two runs tell the same.
func TestTheSameForTheSame(t *testing.T) {
	run := func() string {
		r := rand.New(rand.NewSource(11))
		n := newNet(t, 5)
		w := newWriter(t, n)
		said := ""
		for range 150 {
			n.Weather(r.Intn(8), r.Intn(8), r.Intn(8))
			at, e := w.Append([]byte{byte(r.Intn(256))})
			tail, err := Tail(n, log)
			v, none := Read(n, log, r.Intn(20))
			said += fmt.Sprint(at, e, tail, err, v, none, w.Len(), w.Done(), n.Deliver(r.Intn(9)), n.Arm(r.Intn(5), disk.Loss{After: r.Intn(99)}), n.Restart(r.Intn(5)))
		}
		tail, e := Close(n, log)
		return said + fmt.Sprint(tail, e, n.Late(), shown(t, n, log))
	}
	if run() != run() {
		t.Error("rule 5: two runs are not the same")
	}
}
