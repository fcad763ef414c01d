package entry

import (
	"fmt"
	"math"
	"math/rand"
	"slices"
	"strings"
	"testing"

	"headland/api"
	"headland/txn"
)

// mustBe is Right and Encode of an entry that may stand in the log, or may not.
func mustBe(t *testing.T, right bool, e api.Entry, why string) {
	t.Helper()
	want := api.OK
	if !right {
		want = api.ErrArg
	}
	if b, refused := Encode(e); Right(e) != right || refused != want || (len(b) > 0) != right {
		t.Errorf("17.1: of %s: Right is %v, Encode is %d bytes, error %d: %.300s", why, Right(e), len(b), refused, fmt.Sprint(e))
	}
}

// edges of any number, and of those that an entry has.
func edges() []int {
	return []int{math.MinInt, -1 << 32, math.MinInt32, -256, -3, -2, -1, 0, 1, 2, 3, 4, 5, 6, 7, 8, 9, 127, 128, 255, 256, 1<<20 - 1, 1 << 20, 1<<20 + 1, 1<<31 - 1, 1 << 31, 1<<31 + 1, 1 << 32, 1<<32 + 1, 1<<62 + 1, math.MaxInt}
}

func TestKinds(t *testing.T) {
	for _, kind := range edges() {
		mustBe(t, kind == 1, api.Entry{Kind: kind, Commands: commands{command(0, 1)}}, "an entry with a command")
		mustBe(t, 2 <= kind && kind <= 5, api.Entry{Kind: kind, N: 1}, "an entry with N 1")
		mustBe(t, kind == 2 || kind == 4, api.Entry{Kind: kind}, "an entry of nothing")
	}
	mustBe(t, false, api.Entry{}, "the zero entry")
}

func TestServer(t *testing.T) {
	for _, server := range edges() {
		right := 0 <= server && server <= 3
		mustBe(t, right, batch(server, command(0, 1)), "a batch of a server")
		for kind := api.EView; kind <= api.EUpgrade; kind++ {
			mustBe(t, right, bare(kind, server, 1), "an entry of a server")
		}
	}
}

func TestBatch(t *testing.T) {
	for _, n := range edges() {
		e := batch(1, command(2, 3, ask("t", num(1))))
		e.N = n
		mustBe(t, n == 0, e, "a batch with an N")
	}
	for count := range 9 {
		for _, c := range (commands{command(0, 1), command(7, 300, manyOps()[:3]...)}) {
			mustBe(t, 1 <= count && count <= 3, batch(0, slices.Repeat(commands{c}, count)...), fmt.Sprint("a batch of ", count, " commands"))
		}
	}
	mustBe(t, false, batch(0), "a batch of none")
	mustBe(t, false, api.Entry{Kind: api.EBatch, Commands: commands{}}, "a batch of none that is not nil")
	mustBe(t, false, batch(0, make(commands, 1000)...), "a batch of very many")
}

// inEachPlace is batches of one to three commands, one of which is the one handed in.
func inEachPlace(c api.Command) []api.Entry {
	right := command(3, 9, ask("t", num(1)))
	return []api.Entry{batch(0, c), batch(0, c, right), batch(0, right, c), batch(3, c, right, right), batch(3, right, c, right), batch(3, right, right, c), batch(3, c, c, c)}
}

func TestSessionAndSeq(t *testing.T) {
	for _, session := range edges() {
		for _, seq := range edges() {
			right := 0 <= session && session <= 7 && 1 <= seq && seq <= 1<<31-1
			for _, e := range inEachPlace(command(session, seq)) {
				mustBe(t, right, e, fmt.Sprint("a batch with the command ", seq, " of the session ", session))
			}
		}
	}
}

func wrongValues() values {
	return values{{Kind: -1}, {Kind: 4}, {N: 1}, {S: "a"}, {Kind: api.Int, S: "a"}, {Kind: api.Bool, N: 2}, {Kind: api.Bool, N: -1}, {Kind: api.Text, N: 1}, word("\xFF"), word("a\xC3"), word("\xED\xA0\x80"), word("\xF4\x90\x80\x80"), word("\xC0\x80"), word("123456789"), word(strings.Repeat("ä", 9))}
}

// wrongOps are not txn.Right, each by one rule of it.
func wrongOps() ops {
	l := ops{{}, {Kind: -1}, {Kind: 7}, {Kind: 1 + 1<<32, Schema: little("t")}, create(api.Schema{}), create(little("T")), create(api.Schema{Name: "t"})}
	long := great()
	long.Columns[0].Max = 9
	l = append(l, create(long), insert("t", none(), none(), none(), none()), update("t", none(), none(), none(), none()))
	for _, name := range []string{"", "T", "ä", "t1", "abcdefghi", "\xFF"} {
		l = append(l, insert(name, num(1)), update(name, num(1)), remove(name, num(1)), ask(name, num(1)), scan(name, 0, none(), none(), 1))
	}
	for _, v := range wrongValues() {
		l = append(l, insert("t", num(1), v), update("t", v), remove("t", v), ask("t", v), scan("t", 0, v, none(), 1), scan("t", 0, none(), v, 1))
	}
	for _, n := range []int{math.MinInt, -1, 3, 4, 256, 1 << 32, math.MaxInt} {
		l = append(l, scan("t", n, none(), none(), 1))
	}
	for _, n := range []int{math.MinInt, -1, 0, 5, 257, 1<<32 + 1, math.MaxInt} {
		l = append(l, scan("t", 0, none(), none(), n))
	}
	return append(l, withAnotherField()...)
}

// withAnotherField are operations that are right but for a field that their kind does not have.
func withAnotherField() ops {
	var l ops
	for _, o := range (ops{create(little("t")), insert("t", num(1)), update("t", num(1)), remove("t", num(1)), ask("t", num(1)), scan("t", 1, num(1), num(2), 1)}) {
		for _, f := range []struct {
			has  []int
			turn func(o *api.Op)
		}{
			{[]int{2, 3, 4, 5, 6}, func(o *api.Op) { o.Table = "t" }},
			{[]int{1}, func(o *api.Op) { o.Schema = little("t") }},
			{[]int{1}, func(o *api.Op) { o.Schema.Indexes = make([]api.Index, 1) }},
			{[]int{2, 3}, func(o *api.Op) { o.Row = values{none()} }},
			{[]int{4, 5}, func(o *api.Op) { o.Key = num(0) }},
			{[]int{6}, func(o *api.Op) { o.Column = 1 }},
			{[]int{6}, func(o *api.Op) { o.Lo = word("") }},
			{[]int{6}, func(o *api.Op) { o.Hi = truth(0) }},
			{[]int{6}, func(o *api.Op) { o.Limit = 1 }},
		} {
			if other := o; !slices.Contains(f.has, o.Kind) {
				f.turn(&other)
				l = append(l, other)
			}
		}
	}
	return l
}

func TestOperations(t *testing.T) {
	for _, o := range wrongOps() {
		if txn.Right(ops{o}) {
			t.Fatalf("16.1: Right of %+v", o)
		}
		right := ask("t", num(1))
		for _, l := range []ops{{o}, {o, right}, {right, o}, {o, right, right}, {right, o, right}, {right, right, o}} {
			for _, e := range inEachPlace(command(1, 2, l...)) {
				mustBe(t, false, e, "a batch with an operation that is not right")
			}
		}
	}
	for _, o := range manyOps() {
		for count := range 6 {
			for _, e := range inEachPlace(command(1, 2, slices.Repeat(ops{o}, count)...)) {
				mustBe(t, count <= 3, e, fmt.Sprint("a batch with ", count, " operations"))
			}
		}
	}
}

func TestOtherKinds(t *testing.T) {
	for kind, most := range map[int][2]int{api.EView: {0, 1<<31 - 1}, api.EEnd: {0, 1<<31 - 1}, api.ELease: {1, 1 << 20}, api.EUpgrade: {1, 2}} {
		for _, n := range edges() {
			right := most[0] <= n && n <= most[1]
			mustBe(t, right, api.Entry{Kind: kind, N: n}, "an entry without commands")
			mustBe(t, right, api.Entry{Kind: kind, N: n, Commands: commands{}}, "an entry with commands that are empty and not nil")
			mustBe(t, right, api.Entry{Kind: kind, N: n, Commands: make(commands, 0, 3)}, "an entry with spare room for commands")
			mustBe(t, false, api.Entry{Kind: kind, N: n, Commands: commands{command(0, 1)}}, "an entry with a command")
			mustBe(t, false, api.Entry{Kind: kind, N: n, Commands: make(commands, 1)}, "an entry with a zero command")
			mustBe(t, false, api.Entry{Kind: kind, N: n, Commands: make(commands, 3)}, "an entry with three commands")
		}
	}
}

func TestSome(t *testing.T) {
	for _, e := range some() {
		mustBe(t, true, e, "an entry that is right")
	}
}

// mostly is a right one but for one time in some.
func mostly[T any](r *rand.Rand, right, wrong []T) T {
	if r.Intn(25) == 0 {
		return one(r, wrong...)
	}
	return one(r, right...)
}

// someEntry is an entry that may be wrong.
func someEntry(r *rand.Rand) api.Entry {
	e := api.Entry{Kind: mostly(r, []int{1, 1, 1, 2, 3, 4, 5}, []int{0, 6, -1}), Server: mostly(r, []int{0, 1, 2, 3}, []int{-1, 4, 1 << 32})}
	if e.Kind != api.EBatch {
		e.N = mostly(r, []int{1, 2, 1 + r.Intn(2)}, edges())
	}
	if (e.Kind == api.EBatch) == (r.Intn(25) == 0) {
		return e
	}
	for range 1 + r.Intn(3) + r.Intn(25)/24 {
		c := command(mostly(r, []int{0, 7, r.Intn(8)}, edges()), mostly(r, []int{1, 1<<31 - 1, 1 + r.Intn(1000)}, edges()))
		for range r.Intn(4) + r.Intn(25)/24 {
			c.Ops = append(c.Ops, mostly(r, manyOps(), wrongOps()))
		}
		e.Commands = append(e.Commands, c)
	}
	return e
}

// plainRight is 17.1 by its words.
func plainRight(e api.Entry) bool {
	right := 1 <= e.Kind && e.Kind <= 5 && 0 <= e.Server && e.Server <= 3
	for _, c := range e.Commands {
		right = right && 0 <= c.Session && c.Session <= 7 && 1 <= c.Seq && c.Seq < 1<<31 && txn.Right(c.Ops)
	}
	most := map[int][4]int{1: {0, 0, 1, 3}, 2: {0, 1<<31 - 1}, 3: {1, 1 << 20}, 4: {0, 1<<31 - 1}, 5: {1, 2}}[e.Kind]
	return right && most[0] <= e.N && e.N <= most[1] && most[2] <= len(e.Commands) && len(e.Commands) <= most[3]
}

func TestRightByItsWords(t *testing.T) {
	r, count := rand.New(rand.NewSource(17)), map[string]int{}
	for range 10000 {
		e := someEntry(r)
		right := plainRight(e)
		count[fmt.Sprint(e.Kind, right)]++
		mustBe(t, right, e, "some entry")
		if !right {
			continue
		}
		if b := mustEncode(t, e); !alike(mustDecode(t, b), e) {
			t.Fatalf("17.3: Decode of Encode of %+v is another entry", e)
		}
	}
	for kind := 1; kind <= 5; kind++ {
		if count[fmt.Sprint(kind, true)] < 300 || count[fmt.Sprint(kind, false)] < 50 {
			t.Errorf("17.1: too few of kind %d: %v", kind, count)
		}
	}
}
