package front

import (
	"bytes"
	"fmt"
	"math"
	"slices"
	"strings"
	"testing"

	"roundhouse/api"
)

// oneOfEach: one of each message that a usual front, which goes on with the batch at 1007, may take.
func oneOfEach(t testing.TB) []api.Message {
	x := usual(t)
	return []api.Message{
		x.asksVersion(100, 1), x.asksCommit(100, 1, fineTxns()[3]), x.from(api.Ask, 100, 2, 2, []byte{9}),
		x.verdict(80, 1007), x.pushed(20, 1007), x.alive(20, 1), x.alive(80, 1),
	}
}

// P19.1

func TestNil(t *testing.T) {
	for what, f := range map[string]*Front{"nil": nil, "one that New did not make": new(Front)} {
		for range 3 {
			for _, m := range append(oneOfEach(t), api.Message{}, api.Message{Kind: api.Ask, B: 1}, api.Message{Kind: api.Ask, B: 2}, api.Message{Kind: api.Pushed}, api.Message{Kind: api.Verdict}, api.Message{Kind: api.Alive}) {
				if l := f.Take(m); l != nil {
					t.Errorf("%s: Take(%+v): %+v", what, m, l)
				}
			}
			if l := f.Tick(); l != nil {
				t.Errorf("%s: Tick: %+v", what, l)
			}
			if v, k := f.Ends(); v != 0 || k != 0 {
				t.Errorf("%s: Ends: %d, %d", what, v, k)
			}
			if n := f.Stuck(); n != 0 {
				t.Errorf("%s: Stuck: %d", what, n)
			}
		}
	}
}

// made: what New is given.
type made struct {
	node     int
	state    api.State
	version  int
	referees []int
	bounds   []string
}

func fineMade() made {
	return made{60, api.State{Generation: 1, Epoch: 5, Recovered: 7, Chests: []int{20, 21}}, 7, []int{80, 81}, []string{"h"}}
}

func (m made) new() (*Front, api.Errno) {
	return New(m.node, m.state, m.version, m.referees, m.bounds)
}

// badArgs: of each of them New has nothing but ErrArg to tell.
func badArgs() map[string]func(m *made) {
	out := map[string]func(m *made){
		"no epoch":           func(m *made) { m.state.Epoch = 0 },
		"no state":           func(m *made) { m.state = api.State{} },
		"no chests":          func(m *made) { m.state.Chests = nil },
		"empty chests":       func(m *made) { m.state.Chests = []int{} },
		"too many chests":    func(m *made) { m.state.Chests = slices.Repeat([]int{20}, 17) },
		"a chest too great":  func(m *made) { m.state.Chests = []int{20, 256} },
		"a chest below 0":    func(m *made) { m.state.Chests = []int{-1, 20} },
		"a referee too few":  func(m *made) { m.referees = slices.Repeat([]int{80}, len(m.bounds)) },
		"a referee too many": func(m *made) { m.referees = slices.Repeat([]int{80}, len(m.bounds)+2) },
		"no referees":        func(m *made) { m.referees = nil },
		"many referees":      func(m *made) { m.referees = slices.Repeat([]int{80}, 100) },
		"neither":            func(m *made) { m.referees, m.bounds = nil, nil },
	}
	for _, n := range []int{least, -1000, -1} {
		out[fmt.Sprint("node ", n)] = func(m *made) { m.node = n }
		out[fmt.Sprint("version ", n)] = func(m *made) { m.version = n }
		out[fmt.Sprint("generation ", n)] = func(m *made) { m.state.Generation = n }
		out[fmt.Sprint("epoch ", n)] = func(m *made) { m.state.Epoch = n }
		out[fmt.Sprint("recovered ", n)] = func(m *made) { m.state.Recovered = n }
	}
	for _, n := range []int{256, 257, 1000, most} {
		out[fmt.Sprint("node ", n)] = func(m *made) { m.node = n }
	}
	return out
}

// badBounds: with as many referees as they ask for.
func badBounds() map[string]func(m *made) {
	with := func(list ...string) func(m *made) {
		return func(m *made) {
			m.bounds, m.referees = list, slices.Repeat([]int{80}, len(list)+1)
		}
	}
	return map[string]func(m *made){
		"too many":     with("a", "b", "c", "d", "e", "f", "g", "h"),
		"empty":        with(""),
		"empty first":  with("", "a"),
		"too long":     with("a", long(17)),
		"alike":        with("a", "a"),
		"falling":      with("b", "a"),
		"falling last": with("a", "c", "b"),
		"very many":    with(slices.Repeat([]string{"a"}, 1000)...),
	}
}

func TestNewWrong(t *testing.T) {
	refuses := func(what string, m made, e api.Errno) {
		t.Helper()
		if f, got := m.new(); f != nil || got != e {
			t.Errorf("%s: New: %v, %d; not %d", what, f, got, e)
		}
	}
	for form, spoilBounds := range badBounds() {
		m := fineMade()
		spoilBounds(&m)
		refuses(form, m, api.ErrForm)
		for arg, spoil := range badArgs() {
			both := m
			spoil(&both)
			refuses(form+", "+arg, both, api.ErrArg)
		}
	}
	for arg, spoil := range badArgs() {
		m := fineMade()
		spoil(&m)
		refuses(arg, m, api.ErrArg)
		for other, spoilToo := range badArgs() {
			both := m
			spoilToo(&both)
			refuses(arg+", "+other, both, api.ErrArg)
		}
	}
}

func TestNew(t *testing.T) {
	many := []string{"\x00", "a", "b", "c", long(15), long(16), strings.Repeat("\xff", 16)}
	var referees []int
	for n := range 8 {
		referees = append(referees, 200-n)
	}
	for _, node := range []int{0, 1, 60, 254, 255} {
		for _, version := range []int{0, 1, 7, api.Last, most - 1, most} {
			for _, epoch := range []int{1, 2, most} {
				for _, chests := range [][]int{{0}, {255, 3}, {1, 2, 3, 4, 5, 6, 7, 8, 9, 10, 11, 12, 13, 14, 15, 16}} {
					for n := range 8 {
						x := newPair(t, node, api.State{Epoch: epoch, Recovered: version, Chests: chests}, version, referees[:n+1], many[:n])
						if v, k := x.f.Ends(); v != version || k != version || x.f.Stuck() != 0 {
							t.Fatalf("Ends: %d, %d, Stuck: %d", v, k, x.f.Stuck())
						}
						encoded(t, x.tick())
						encoded(t, x.take(x.asksCommit(100, 1, fineTxns()[9])))
						encoded(t, x.take(x.asksVersion(100, 1)))
						x.drain()
						encoded(t, x.tick())
					}
				}
			}
		}
	}
}

// Referees' numbers are what they are.
func TestNewReferees(t *testing.T) {
	x := newPair(t, 60, api.State{Epoch: 5, Chests: []int{20}}, 0, []int{least, most}, []string{"h"})
	x.sends(x.tick(), [2]int{api.Resolve, least}, [2]int{api.Resolve, most})
	x.take(x.asksCommit(most, most, fineTxns()[3]))
	x.passes(x.asksCommit(most, most, fineTxns()[3]), x.asksCommit(most, least, fineTxns()[3]))
	x.drain()
	x.take(x.asksCommit(least, least, fineTxns()[4]))
	x.passes(x.asksCommit(least, least, fineTxns()[4]))
	x.take(x.asksCommit(least, least+1, fineTxns()[4]))
	x.take(x.asksVersion(most, least))
	x.passes(x.asksVersion(most, least))
	x.tells(x.drain(), [4]int{most, least, api.Open, 1020}, [4]int{least, least, api.Committed, 1030}, [4]int{least, least + 1, api.Committed, 1040})
}

// Messages

// What is not for it, of another epoch, or of a kind that it does not take, changes nothing, wherever it stands.
func TestPassedOver(t *testing.T) {
	begins := []func() *pair{
		func() *pair { return usual(t) },
		func() *pair { x := usual(t); x.take(x.asksVersion(101, 1)); x.tick(); return x },
		func() *pair {
			x := usual(t)
			x.take(x.asksVersion(101, 1))
			x.tick()
			x.take(x.verdict(80, 1007))
			return x
		},
		func() *pair { x := opened(t); x.tick(); return x },
	}
	for _, begin := range begins {
		x := begin()
		for _, m := range oneOfEach(t) {
			for _, to := range []int{least, -1, 0, 20, 59, 61, 80, 100, 255, 316, most} {
				other := m
				other.To = to
				x.passes(other)
				other.Epoch = 0
				x.passes(other)
			}
			for _, epoch := range []int{least, -5, -1, 0, 1, 4, 6, 261, most} {
				other := m
				if other.Epoch = epoch; m.Kind != api.Ask || m.B != 1 {
					x.passes(other)
				}
			}
			for kind := -1; kind < 23; kind++ {
				other := m
				if other.Kind = kind; !slices.Contains([]int{api.Ask, api.Verdict, api.Pushed, api.Alive}, kind) {
					x.passes(other)
				}
			}
			for _, kind := range []int{least, 256 + api.Ask, 256 + api.Alive, most} {
				other := m
				other.Kind = kind
				x.passes(other)
			}
		}
		for _, b := range []int{least, -1, 0, 3, 4, 5, 257, 258, most} {
			x.passes(x.from(api.Ask, 100, 1, b, txnBytes(fineTxns()[3])), x.from(api.Ask, 100, 1, b, nil), x.from(api.Ask, 100, 1, b, []byte{9}))
		}
		x.passes(x.from(api.Tell, 100, 1, 0, nil), x.from(api.Resolve, 80, 7, 1007, nil), x.from(api.Push, 20, 0, 0, batchBytes(api.Batch{})), x.from(api.Live, 20, 1, 0, nil))
	}
}

// P19.2

func TestVersion(t *testing.T) {
	x := usual(t, "h")
	want := []api.Message{
		{Kind: api.Live, From: 60, To: 20, Epoch: 5, A: 1, B: 7},
		{Kind: api.Live, From: 60, To: 21, Epoch: 5, A: 1, B: 7},
		{Kind: api.Live, From: 60, To: 80, Epoch: 5, A: 1, B: 7},
		{Kind: api.Live, From: 60, To: 81, Epoch: 5, A: 1, B: 7},
	}
	if got := x.take(x.asksVersion(100, 3)); !slices.Equal(texts(got), texts(want)) {
		t.Fatalf("asked %v", got)
	}
	for _, from := range []int{81, 20, 80} {
		x.take(x.alive(from, 1))
	}
	got := x.take(x.alive(21, 1))
	if !slices.Equal(texts(got), texts([]api.Message{{Kind: api.Tell, From: 60, To: 100, Epoch: 5, A: 3, B: api.Open, C: 7}})) {
		t.Fatalf("told %v", got)
	}
}

// orders: all orders of some numbers.
func orders(list ...int) [][]int {
	if len(list) == 0 {
		return [][]int{nil}
	}
	var out [][]int
	for i, n := range list {
		for _, rest := range orders(slices.Concat(list[:i], list[i+1:])...) {
			out = append(out, append([]int{n}, rest...))
		}
	}
	return out
}

// It tells when all have answered, in whatever order, and not ahead; who answers twice, or was not asked, is nothing to it.
func TestAlive(t *testing.T) {
	nodes := []int{20, 21, 80, 81}
	for _, order := range orders(nodes...) {
		x := opened(t, "h")
		x.take(x.asksVersion(100, 1))
		for i, from := range order {
			for _, other := range []int{-1, 0, 19, 22, 60, 82, 100, 255, 276} {
				x.passes(x.alive(other, 1))
			}
			for _, number := range []int{least, -1, 0, 2, 257, most} {
				x.passes(x.alive(from, number))
			}
			for _, was := range order[:i] {
				x.passes(x.alive(was, 1))
			}
			got := x.take(x.alive(from, 1))
			if i < len(nodes)-1 {
				x.sends(got)
				continue
			}
			x.tells(got, [4]int{100, 1, api.Open, 1007})
		}
		for _, from := range nodes {
			x.passes(x.alive(from, 1))
		}
	}
}

func TestSeveralVersions(t *testing.T) {
	x := opened(t)
	three := [][2]int{{api.Live, 20}, {api.Live, 21}, {api.Live, 80}}
	x.sends(x.take(x.asksVersion(100, 1)), three...)
	x.passes(x.asksVersion(100, 1))
	elder := x.asksVersion(100, 1)
	elder.Epoch = 4
	x.passes(elder)
	x.sends(x.take(x.asksVersion(101, 1)), three...)
	x.sends(x.take(x.asksVersion(100, 0)), three...)
	other := x.asksVersion(102, 9)
	other.Epoch, other.Body = most, []byte("none")
	x.sends(x.take(other), three...)
	x.passes(other, elder, x.asksVersion(101, 1), x.asksVersion(100, 0), x.asksVersion(102, 9))
	// Each of them by itself.
	for _, from := range []int{20, 21} {
		x.take(x.alive(from, 2))
		x.take(x.alive(from, 4))
	}
	x.take(x.alive(80, 1))
	x.tells(x.take(x.alive(80, 4)), [4]int{102, 9, api.Open, 1007})
	x.tells(x.take(x.alive(80, 2)), [4]int{101, 1, api.Open, 1007})
	// What was told is asked anew, and what was not told is not.
	x.sends(x.take(x.asksVersion(101, 1)), three...)
	x.passes(x.asksVersion(100, 1), x.asksVersion(100, 0), x.asksVersion(101, 1))
	x.tells(x.drain(), [4]int{100, 1, api.Open, 1007}, [4]int{100, 0, api.Open, 1007}, [4]int{101, 1, api.Open, 1007})
	x.sends(x.take(elder), three...)
	x.tells(x.drain(), [4]int{100, 1, api.Open, 1007})
}

// A number of a version is nothing to one of a commit.
func TestVersionAndCommit(t *testing.T) {
	x := opened(t)
	x.take(x.asksVersion(100, 5))
	x.sends(x.take(x.asksCommit(100, 5, fineTxns()[3])), [2]int{api.Resolve, 80})
	x.take(x.asksVersion(100, 4))
	x.passes(x.asksCommit(100, 5, fineTxns()[3]), x.asksCommit(100, 4, fineTxns()[3]), x.asksVersion(100, 5))
	x.tells(x.drain(), [4]int{100, 5, api.Open, 1007}, [4]int{100, 4, api.Open, 1007}, [4]int{100, 5, api.Committed, 1017})
}

// What is told is what is committed when the last one has answered; what is asked is up to where all was judged when it was asked.
func TestVersionAndBatch(t *testing.T) {
	judged := func(x *pair, number, want int) {
		t.Helper()
		for _, m := range x.take(x.asksVersion(100, number)) {
			if m.B != want || m.C != 0 || m.Body != nil {
				t.Errorf("%+v; not up to %d", m, want)
			}
		}
	}
	all := func(x *pair, live int) []api.Message {
		x.take(x.alive(20, live))
		x.take(x.alive(21, live))
		return x.take(x.alive(80, live))
	}
	x := usual(t)
	judged(x, 1, 7)
	judged(x, 2, 7)
	x.tick()
	judged(x, 3, 7)
	x.tells(all(x, 1), [4]int{100, 1, api.Open, 7})
	x.take(x.verdict(80, 1007))
	judged(x, 4, 7)
	x.take(x.pushed(20, 1007))
	judged(x, 5, 7)
	x.tells(all(x, 3), [4]int{100, 3, api.Open, 7})
	x.take(x.pushed(21, 1007))
	judged(x, 6, 1007)
	x.tells(all(x, 2), [4]int{100, 2, api.Open, 1007})
	x.take(x.asksCommit(101, 1, fineTxns()[3]))
	judged(x, 7, 1007)
	x.take(x.verdict(80, 1017, api.Fine))
	judged(x, 8, 1007)
	x.tells(all(x, 4), [4]int{100, 4, api.Open, 1007})
	x.take(x.pushed(20, 1017))
	x.tells(x.take(x.pushed(21, 1017)), [4]int{101, 1, api.Committed, 1017})
	judged(x, 9, 1017) // another batch goes on
	for live := 5; live < 10; live++ {
		x.tells(all(x, live), [4]int{100, live, api.Open, 1017})
	}
	x.take(x.verdict(80, 1027))
	x.take(x.pushed(20, 1027))
	x.take(x.pushed(21, 1027))
	judged(x, 10, 1027)
}

// With a batch that never comes: what is told is what there was.
func TestVersionAlone(t *testing.T) {
	for _, version := range []int{0, 1, 7, api.Last, most} {
		x := newPair(t, 0, api.State{Epoch: 1, Chests: []int{255}}, version, []int{0}, nil)
		for number := range 4 {
			x.take(x.asksVersion(255, number))
			x.tells(x.drain(), [4]int{255, number, api.Open, version})
		}
	}
}

// P19.3

// Ahead of the first Tick no batch begins, and with it one does, with as many as have come, and fit.
func TestFirstBatch(t *testing.T) {
	all := fineTxns()
	for n := range 10 {
		for _, bounds := range [][]string{nil, {"h"}, {"g", "m\xff", "t"}} {
			x := usual(t, bounds...)
			var want [][4]int
			for i := range n {
				x.sends(x.take(x.asksCommit(100+i%3, i+1, all[i])))
				want = append(want, [4]int{100 + i%3, i + 1, api.Committed, 1007 + 10*(i/4)})
			}
			first := x.tick()
			if len(first) != len(bounds)+1 {
				t.Fatalf("%d messages", len(first))
			}
			for i, m := range first {
				if m.Kind != api.Resolve || m.To != 80+i || m.A != 7 || m.B != 1007 || m.C != min(n, 4) {
					t.Errorf("%d commits: %+v", n, m)
				}
			}
			encoded(t, first)
			x.tells(x.drain(), want...)
			last := 1007
			if n > 0 {
				last += 10 * ((n + 3) / 4) // the last one is without any
			}
			if v, k := x.f.Ends(); v != last || k != last {
				t.Errorf("%d commits: Ends: %d, %d; not %d", n, v, k, last)
			}
			x.sends(x.tick(), slices.Concat([][2]int{{api.Live, 20}, {api.Live, 21}, {api.Live, 80}, {api.Live, 81}, {api.Live, 82}, {api.Live, 83}}[:3+len(bounds)])...)
		}
	}
}

// Each referee has its piece of each transaction, in order.
func TestPieces(t *testing.T) {
	x := opened(t, "h", "n")
	one := api.Txn{Read: 900, Reads: []api.Span{of("a", "z"), of("h", "i")}, Changes: []api.Change{wipe("g", "o"), put("h", "1"), put("z", "2")}}
	two := api.Txn{Read: 5, Changes: []api.Change{clearOf("a")}}
	x.p.fine[string(txnBytes(one))], x.p.fine[string(txnBytes(two))] = one, two
	x.take(x.asksCommit(100, 1, fineTxns()[0])) // goes into a batch of its own
	x.take(x.asksCommit(100, 2, one))
	x.take(x.asksCommit(101, 1, two))
	for _, m := range x.p.open {
		x.take(x.answer(m))
	}
	x.take(x.pushed(20, 1017))
	got := x.take(x.pushed(21, 1017))
	bodies := [][]api.Txn{
		{{Read: 900, Reads: []api.Span{of("a", "h")}, Changes: []api.Change{wipe("g", "h")}}, two},
		{{Read: 900, Reads: []api.Span{of("h", "n"), of("h", "i")}, Changes: []api.Change{wipe("h", "n"), put("h", "1")}}, {Read: 5}},
		{{Read: 900, Reads: []api.Span{of("n", "z")}, Changes: []api.Change{wipe("n", "o"), put("z", "2")}}, {Read: 5}},
	}
	for i, m := range got[1:] {
		body := append(textBytes(string(txnBytes(bodies[i][0]))), textBytes(string(txnBytes(bodies[i][1])))...)
		if m.Kind != api.Resolve || m.To != 80+i || m.A != 1017 || m.B != 1027 || m.C != 2 || !bytes.Equal(m.Body, body) {
			t.Errorf("referee %d: %+v", i, m)
		}
	}
}

// Which Version is ahead, and by how much the next one is above; with one commit, none, and one again, none.
func TestVersions(t *testing.T) {
	for _, c := range []struct{ version, recovered, first, second, third, fourth int }{
		{0, 0, 1000, 1010, 1020, 1030},
		{0, 1, 10, 20, 30, 40},
		{0, 10, 10, 1010, 1020, 1030},
		{7, 7, 1007, 1017, 1027, 1037},
		{7, 6, 17, 27, 37, 47},
		{7, 8, 17, 27, 37, 47},
		{7, 17, 17, 1017, 1027, 1037},
		{7, 27, 17, 27, 1027, 1037},
		{7, 37, 17, 27, 37, 1037},
		{7, 47, 17, 27, 37, 47},
		{7, 1007, 17, 27, 37, 47},
		{5, 15, 15, 1015, 1025, 1035},
		{0, most, 10, 20, 30, 40},
	} {
		x := newPair(t, 60, api.State{Epoch: 5, Recovered: c.recovered, Chests: []int{20}}, c.version, []int{80}, nil)
		x.take(x.asksCommit(100, 1, fineTxns()[2]))
		x.tick()
		was := c.version
		for i, want := range []int{c.first, c.second, c.third, c.fourth} {
			m := x.p.open[0]
			if v, k := x.f.Ends(); v != want || k != was || m.Kind != api.Resolve || m.A != was || m.B != want {
				t.Fatalf("%+v: Ends: %d, %d, %+v", c, v, k, m)
			}
			b := api.Batch{Prev: was, Version: want, Known: was}
			if i%2 == 0 {
				b.Changes = fineTxns()[2].Changes
			}
			got := x.take(x.answer(m))
			if len(got) != 1 || !bytes.Equal(got[0].Body, batchBytes(b)) {
				t.Errorf("%+v: pushed %+v, not %+v", c, got, b)
			}
			x.take(x.pushed(20, want))
			if was = want; i == 1 {
				x.take(x.asksCommit(100, 2, fineTxns()[2]))
			}
		}
		if v, k := x.f.Ends(); v != c.fourth || k != v {
			t.Errorf("%+v: Ends: %d, %d", c, v, k)
		}
	}
}

// The batch without any comes behind one that had some, whatever came of these, and none comes behind it.
func TestBatchWithoutAny(t *testing.T) {
	for _, v := range []int{api.Fine, api.Clash, api.Late} {
		x := opened(t)
		for _, from := range []int{20, 21, 80} { // the first one had none
			x.passes(x.verdict(from, 1007), x.pushed(from, 1007), x.pushed(from, 1017))
		}
		x.sends(x.take(x.asksCommit(100, 1, fineTxns()[3])), [2]int{api.Resolve, 80})
		x.take(x.verdict(80, 1017, v))
		x.take(x.pushed(20, 1017))
		got := x.take(x.pushed(21, 1017))
		x.sends(got, [2]int{api.Tell, 100}, [2]int{api.Resolve, 80})
		if m := got[1]; m.A != 1017 || m.B != 1027 || m.C != 0 || len(m.Body) > 0 {
			t.Errorf("%+v", m)
		}
		got = x.take(x.verdict(80, 1027))
		x.sends(got, [2]int{api.Push, 20}, [2]int{api.Push, 21})
		if !bytes.Equal(got[0].Body, batchBytes(api.Batch{Prev: 1017, Version: 1027, Known: 1017})) {
			t.Errorf("%+v", got)
		}
		x.take(x.pushed(20, 1027))
		x.sends(x.take(x.pushed(21, 1027)))
		if v, k := x.f.Ends(); v != 1027 || k != 1027 {
			t.Errorf("Ends: %d, %d", v, k)
		}
	}
}

// One that comes while the batch without any goes on goes into the next one, behind which there is one without any again.
func TestBehindWithoutAny(t *testing.T) {
	x := opened(t)
	x.take(x.asksCommit(100, 1, fineTxns()[3]))
	x.take(x.verdict(80, 1017, api.Fine))
	x.take(x.pushed(20, 1017))
	x.take(x.pushed(21, 1017))
	x.sends(x.take(x.asksCommit(100, 2, fineTxns()[4])))
	x.take(x.verdict(80, 1027))
	x.take(x.pushed(20, 1027))
	x.sends(x.take(x.pushed(21, 1027)), [2]int{api.Resolve, 80})
	x.tells(x.drain(), [4]int{100, 2, api.Committed, 1037})
	if v, k := x.f.Ends(); v != 1047 || k != 1047 {
		t.Errorf("Ends: %d, %d", v, k)
	}
}

// While one goes on no other one begins; those that come meanwhile go on in their order, as many as fit.
func TestOneAtATime(t *testing.T) {
	all := fineTxns()
	x := opened(t)
	x.take(x.asksCommit(100, 1, all[0]))
	var want [][4]int
	for i := range 9 {
		x.sends(x.take(x.asksCommit(101+i%2, i, all[i])))
	}
	want = append(want, [4]int{100, 1, api.Committed, 1017})
	for i := range 9 {
		want = append(want, [4]int{101 + i%2, i, api.Committed, 1027 + 10*(i/4)})
	}
	if v, k := x.f.Ends(); v != 1017 || k != 1007 {
		t.Errorf("Ends: %d, %d", v, k)
	}
	x.tells(x.drain(), want...)
	if v, k := x.f.Ends(); v != 1057 || k != 1057 {
		t.Errorf("Ends: %d, %d", v, k)
	}
}

// badBodies: of transactions that are none, or too large, by what is wrong.
func badBodies() map[string][]byte {
	fine := fineTxns()[3]
	with := func(spoil func(t *api.Txn)) []byte {
		t := api.Txn{Read: fine.Read, Reads: slices.Clone(fine.Reads), Changes: slices.Clone(fine.Changes)}
		spoil(&t)
		return txnBytes(t)
	}
	return map[string][]byte{
		"nothing":               nil,
		"a number alone":        {9},
		"cut off":               txnBytes(fine)[:len(txnBytes(fine))-1],
		"gone on with":          append(txnBytes(fine), 0),
		"ones":                  bytes.Repeat([]byte{255}, 100),
		"a long number":         append([]byte{0x80, 0}, txnBytes(fine)[2:]...),
		"too large a number":    append(bytes.Repeat([]byte{255}, 9), 1, 0, 0),
		"a text":                textBytes(string(txnBytes(fine))),
		"a very long body":      make([]byte, api.MaxBody+1),
		"too many reads":        with(func(t *api.Txn) { t.Reads = slices.Repeat([]api.Span{of("a", "b")}, 25) }),
		"too many changes":      with(func(t *api.Txn) { t.Changes = slices.Repeat([]api.Change{clearOf("a")}, 25) }),
		"an inverted read":      with(func(t *api.Txn) { t.Reads[0] = of("b", "a") }),
		"an end too long":       with(func(t *api.Txn) { t.Reads[0].To = "z" + long(17) }),
		"a key too long":        with(func(t *api.Txn) { t.Changes[0].Key = long(17) }),
		"a value too long":      with(func(t *api.Txn) { t.Changes[1].Value = long(65) }),
		"a kind that is none":   with(func(t *api.Txn) { t.Changes[2].Kind = 4 }),
		"a kind 0":              with(func(t *api.Txn) { t.Changes[2].Kind = 0 }),
		"a cleared value":       with(func(t *api.Txn) { t.Changes[0] = api.Change{Kind: api.Clear, Key: "a", Value: "1"} }),
		"an inverted wipe":      with(func(t *api.Txn) { t.Changes[0] = wipe("b", "a") }),
		"a byte too much":       txnBytes(tooHeavy()),
		"too much by its reads": txnBytes(api.Txn{Reads: slices.Repeat([]api.Span{of(long(7), long(8))}, 23)}),
		"too much by changes":   txnBytes(api.Txn{Changes: slices.Repeat([]api.Change{put(long(10), "1234")}, 24)}),
	}
}

// tooHeavy: a sound transaction with a byte more than MaxTxn.
func tooHeavy() api.Txn {
	t := heavy()
	t.Changes[0].Value += "k"
	return t
}

func TestTooLarge(t *testing.T) {
	for what, body := range badBodies() {
		for _, begin := range []func() *pair{
			func() *pair { return usual(t) },
			func() *pair { return opened(t) },
			func() *pair { x := opened(t); x.take(x.asksCommit(101, 1, heavy())); return x },
		} {
			x := begin()
			was, _ := x.f.Ends()
			for _, number := range []int{1, 2, 7} {
				got := x.take(x.from(api.Ask, 100, number, 2, body))
				if !slices.Equal(texts(got), texts([]api.Message{{Kind: api.Tell, From: 60, To: 100, Epoch: 5, A: number, B: api.TooLarge}})) {
					t.Errorf("%s: %+v", what, got)
				}
			}
			if now, _ := x.f.Ends(); now != was {
				t.Errorf("%s: a batch at %d", what, now)
			}
			x.tick()
			for _, m := range x.p.open {
				if m.Kind == api.Resolve && m.C > 1 || m.Kind == api.Resolve && was != 1017 && m.C != 0 {
					t.Errorf("%s: %+v", what, m)
				}
			}
		}
	}
	x := opened(t)
	x.sends(x.take(x.asksCommit(100, 1, heavy())), [2]int{api.Resolve, 80})
	x.tells(x.drain(), [4]int{100, 1, api.Committed, 1017})
}

// A number at or below the last one of that guest is passed over; those of others are nothing to it.
func TestNumbers(t *testing.T) {
	one := fineTxns()[3]
	for _, first := range []int{least, -1, 0, 1, 5, most - 1, most} {
		x := opened(t)
		x.sends(x.take(x.asksCommit(100, first, one)), [2]int{api.Resolve, 80})
		for _, below := range []int{least, first - 1, first} {
			if below <= first {
				x.passes(x.asksCommit(100, below, one), x.asksCommit(100, below, fineTxns()[4]))
			}
		}
		x.tells(x.drain(), [4]int{100, first, api.Committed, 1017})
		x.passes(x.asksCommit(100, first, one))
		x.sends(x.take(x.asksCommit(101, first, one)), [2]int{api.Resolve, 80})
		if first < most {
			x.sends(x.take(x.asksCommit(100, first+1, one)))
			x.passes(x.asksCommit(100, first+1, one), x.asksCommit(100, first, one), x.asksCommit(101, first, one))
			x.tells(x.drain(), [4]int{101, first, api.Committed, 1037}, [4]int{100, first + 1, api.Committed, 1047})
		}
	}
}

// Numbers need not follow one on the other.
func TestNumbersApart(t *testing.T) {
	x := opened(t)
	x.take(x.asksCommit(100, 10, fineTxns()[3]))
	x.take(x.asksCommit(100, 20, fineTxns()[4]))
	x.passes(x.asksCommit(100, 15, fineTxns()[5]), x.asksCommit(100, 20, fineTxns()[5]), x.asksCommit(100, 1, fineTxns()[5]))
	x.take(x.asksCommit(100, 21, fineTxns()[5]))
	x.tells(x.drain(), [4]int{100, 10, api.Committed, 1017}, [4]int{100, 20, api.Committed, 1027}, [4]int{100, 21, api.Committed, 1027})
}

// Which of two faults of a commit is told; and what is told TooLarge was asked, with its number.
func TestTwoFaults(t *testing.T) {
	for what, body := range badBodies() {
		x := opened(t)
		x.take(x.asksCommit(100, 5, fineTxns()[3]))
		for _, number := range []int{4, 5, 5, 6} {
			x.tells(x.take(x.from(api.Ask, 100, number, 2, body)), [4]int{100, number, api.TooLarge, 0})
			other := x.from(api.Ask, 100, number, 2, body)
			other.Epoch = 4
			x.passes(other)
			other.Epoch, other.To = 5, 61
			x.passes(other)
		}
		for _, number := range []int{4, 5, 6} {
			x.passes(x.asksCommit(100, number, fineTxns()[4]))
		}
		x.take(x.asksCommit(100, 7, fineTxns()[4]))
		x.tells(x.drain(), [4]int{100, 5, api.Committed, 1017}, [4]int{100, 7, api.Committed, 1027})
		if x.f.Stuck() != 0 {
			t.Errorf("%s: Stuck: %d", what, x.f.Stuck())
		}
	}
}

// One of another epoch was not asked: its number is free.
func TestNumberOfOtherEpoch(t *testing.T) {
	x := opened(t)
	for _, epoch := range []int{least, 0, 4, 6, most} {
		m := x.asksCommit(100, 9, fineTxns()[3])
		m.Epoch = epoch
		x.passes(m)
	}
	x.sends(x.take(x.asksCommit(100, 1, fineTxns()[3])), [2]int{api.Resolve, 80})
}

// All verdicts of two referees on one transaction, and all of three on two.
func TestVerdicts(t *testing.T) {
	told := []int{0, api.Committed, api.Refused, api.TooOld}
	changes := fineTxns()[3].Changes
	for _, order := range orders(80, 81, 82) {
		for turn := range 729 {
			x := opened(t, "h", "n")
			x.take(x.asksCommit(100, 1, fineTxns()[0]))
			x.take(x.asksCommit(101, 2, fineTxns()[3]))
			x.take(x.asksCommit(102, 3, fineTxns()[4]))
			x.drainTo(1027)
			worst := [2]int{}
			var got []api.Message
			for n, from := range order {
				both := [2]int{}
				for i := range both {
					both[i] = turn/int(math.Pow(3, float64(2*n+i)))%3 + 1
					worst[i] = max(worst[i], both[i])
				}
				got = x.take(x.verdict(from, 1027, both[:]...))
				x.passes(x.verdict(from, 1027, 1, 1), x.verdict(from, 1027, 3, 3))
			}
			want := api.Batch{Prev: 1017, Version: 1027, Known: 1017}
			if worst[0] == api.Fine {
				want.Changes = changes
			}
			x.sends(got, [2]int{api.Push, 20}, [2]int{api.Push, 21})
			if !bytes.Equal(got[0].Body, batchBytes(want)) || !bytes.Equal(got[1].Body, batchBytes(want)) {
				t.Fatalf("%v: %+v", worst, got)
			}
			x.take(x.pushed(21, 1027))
			at := func(v int) int { return map[bool]int{true: 1027}[v == api.Fine] }
			x.tells(x.take(x.pushed(20, 1027)), [4]int{101, 2, told[worst[0]], at(worst[0])}, [4]int{102, 3, told[worst[1]], at(worst[1])})
		}
		if testing.Short() {
			return
		}
	}
}

// drainTo: what was asked is answered, till the batch at a version has begun.
func (x *pair) drainTo(version int) {
	x.t.Helper()
	for x.p.version < version {
		x.take(x.answer(x.p.open[0]))
	}
}

// What is no verdict, or not waited for, changes nothing; who gave one can't take it back.
func TestNoVerdicts(t *testing.T) {
	x := opened(t, "h")
	x.take(x.asksCommit(100, 1, fineTxns()[0]))
	x.take(x.asksCommit(100, 2, fineTxns()[3]))
	x.take(x.asksCommit(100, 3, fineTxns()[5]))
	x.drainTo(1027)
	wrong := func() {
		for _, from := range []int{80, 81} {
			for _, body := range [][]byte{nil, {}, {1}, {1, 1, 1}, {1, 1, 0}, {0, 1}, {1, 0}, {4, 1}, {1, 4}, {1, 127}, {0x81, 0}, {0x81, 0, 1}, {0x81, 1}, {0x81, 1, 1}, {1, 0x81}, {1, 255}, {1, 255, 255, 255, 255, 255, 255, 255, 255, 255, 1}, bytes.Repeat([]byte{1}, 5000)} {
				x.passes(x.from(api.Verdict, from, 1027, 0, body))
			}
			for _, version := range []int{least, -1, 0, 7, 1007, 1017, 1026, 1028, 1037, most} {
				x.passes(x.verdict(from, version, 1, 1))
			}
		}
		for _, from := range []int{-1, 0, 20, 21, 60, 79, 82, 100, 336} {
			x.passes(x.verdict(from, 1027, 1, 1))
		}
		for _, from := range []int{20, 21} {
			for _, version := range []int{1017, 1027, 1028, most} {
				x.passes(x.pushed(from, version))
			}
		}
	}
	wrong()
	x.sends(x.take(x.verdict(81, 1027, 1, 2)))
	x.passes(x.verdict(81, 1027, 1, 1))
	wrong()
	x.sends(x.take(x.verdict(80, 1027, 1, 1)), [2]int{api.Push, 20}, [2]int{api.Push, 21})
	x.passes(x.verdict(80, 1027, 3, 3), x.verdict(81, 1027, 1, 1), x.verdict(80, 1027, 2, 2))
	x.take(x.pushed(20, 1027))
	x.tells(x.take(x.pushed(21, 1027)), [4]int{100, 2, api.Committed, 1027}, [4]int{100, 3, api.Refused, 0})
}

// Of a batch without any: verdicts without any.
func TestVerdictsOfNone(t *testing.T) {
	x := usual(t, "h")
	x.tick()
	for _, body := range [][]byte{{1}, {0}, {1, 1}, {0x80}} {
		x.passes(x.from(api.Verdict, 80, 1007, 0, body))
	}
	x.passes(x.verdict(80, 7), x.verdict(80, 0))
	x.sends(x.take(x.from(api.Verdict, 80, 1007, 0, []byte{})))
	x.passes(x.verdict(80, 1007))
	x.sends(x.take(x.verdict(81, 1007)), [2]int{api.Push, 20}, [2]int{api.Push, 21})
}

// A chest has Pushed when it has the batch's Version, or more; what it said ahead of the Push is nothing.
func TestPushed(t *testing.T) {
	for _, order := range orders(20, 21, 22) {
		for _, version := range []int{1007, 1008, 1017, 5000, most} {
			x := newPair(t, 60, api.State{Epoch: 5, Recovered: 7, Chests: []int{20, 21, 22}}, 7, []int{80}, nil)
			x.passes(x.pushed(20, 7), x.pushed(20, 1007), x.pushed(20, most))
			x.tick()
			for _, from := range order {
				x.passes(x.pushed(from, version))
			}
			x.take(x.verdict(80, 1007))
			for i, from := range order {
				for _, below := range []int{least, -1, 0, 7, 1006} {
					x.passes(x.pushed(from, below))
				}
				for _, other := range []int{-1, 0, 19, 23, 60, 80, 276} {
					x.passes(x.pushed(other, version))
				}
				for _, was := range order[:i] {
					x.passes(x.pushed(was, version))
				}
				if v, k := x.f.Ends(); v != 1007 || k != 7 {
					t.Fatalf("Ends: %d, %d", v, k)
				}
				x.sends(x.take(x.pushed(from, version)))
			}
			if v, k := x.f.Ends(); v != 1007 || k != 1007 {
				t.Fatalf("Ends: %d, %d", v, k)
			}
			// What was said of more does not count for the next one.
			x.take(x.asksCommit(100, 1, fineTxns()[3]))
			x.passes(x.pushed(20, 1007), x.pushed(20, version))
			x.sends(x.take(x.verdict(80, 1017, 1)), [2]int{api.Push, 20}, [2]int{api.Push, 21}, [2]int{api.Push, 22})
			x.passes(x.pushed(20, 1007), x.pushed(20, 1016))
			x.take(x.pushed(20, 1017))
			x.take(x.pushed(22, 1020))
			x.tells(x.take(x.pushed(21, 1017)), [4]int{100, 1, api.Committed, 1017})
		}
	}
}

// Where no batch can stand any more.
func TestLast(t *testing.T) {
	for _, c := range []struct {
		version   int
		recovered bool
		want      int // at which the first one stands; 0: none does
	}{
		{api.Last - 1001, true, api.Last - 1}, {api.Last - 1000, true, api.Last}, {api.Last - 999, true, 0}, {api.Last - 10, true, 0}, {api.Last, true, 0}, {most, true, 0}, {most - 999, true, 0},
		{api.Last - 11, false, api.Last - 1}, {api.Last - 10, false, api.Last}, {api.Last - 9, false, 0}, {api.Last - 1, false, 0}, {api.Last, false, 0}, {api.Last + 1, false, 0}, {most - 10, false, 0}, {most - 9, false, 0}, {most, false, 0},
	} {
		for _, ahead := range []int{0, 1, 6} {
			s := api.State{Epoch: 5, Chests: []int{20}}
			if c.recovered {
				s.Recovered = c.version
			}
			x := newPair(t, 60, s, c.version, []int{80}, nil)
			var unknown [][4]int
			for i := range ahead {
				x.sends(x.take(x.asksCommit(100+i, 1, fineTxns()[3])))
				unknown = append(unknown, [4]int{100 + i, 1, api.Unknown, 0})
			}
			first := x.tick()
			if c.want > 0 {
				x.sends(first, [2]int{api.Resolve, 80})
				if v, _ := x.f.Ends(); v != c.want {
					t.Errorf("%+v: begun up to %d", c, v)
				}
				for i := range unknown[:min(4, ahead)] {
					unknown[i][2], unknown[i][3] = api.Committed, c.want
				}
				x.take(x.asksCommit(110, 1, fineTxns()[3]))
				unknown = append(unknown, [4]int{110, 1, api.Unknown, 0})
				x.tells(x.drain(), unknown...)
			} else {
				x.tells(first, unknown...)
				if len(first) != ahead {
					t.Errorf("%+v: %+v", c, first)
				}
			}
			end, known := x.f.Ends()
			if end != max(c.want, c.version) || known != end {
				t.Errorf("%+v: Ends: %d, %d", c, end, known)
			}
			for i := range 3 {
				x.tells(x.take(x.asksCommit(111, i, fineTxns()[3])), [4]int{111, i, api.Unknown, 0})
				x.passes(x.asksCommit(111, i, fineTxns()[3]))
				x.tells(x.take(x.from(api.Ask, 111, i, 2, nil)), [4]int{111, i, api.TooLarge, 0})
			}
			x.sends(x.tick(), [2]int{api.Live, 20}, [2]int{api.Live, 80})
			x.take(x.asksVersion(112, 1))
			x.tells(x.drain(), [4]int{112, 1, api.Open, end})
		}
	}
}

// P19.4

// What was asked is asked again, just as it was; what was answered is not.
func TestAgain(t *testing.T) {
	x := usual(t, "h")
	asked := x.take(x.asksVersion(100, 1))
	for range 3 {
		asked = append(asked, x.take(x.asksVersion(100, len(asked)))...)
	}
	again := func(want []api.Message) {
		t.Helper()
		if got := x.tick(); !slices.Equal(texts(got), texts(want)) {
			t.Errorf("asked\n%v\nnot\n%v", texts(got), texts(want))
		}
	}
	x.take(x.alive(20, 2))
	asked = slices.Delete(asked, 4, 5)
	first := x.tick()
	if !slices.Equal(texts(first[:len(asked)]), texts(asked)) {
		t.Errorf("asked\n%v\nnot\n%v", texts(first), texts(asked))
	}
	asked = slices.Clone(first) // and the batch that has begun
	again(asked)
	again(asked)
	x.take(x.verdict(81, 1007))
	asked = asked[:len(asked)-1]
	again(asked)
	x.passes(x.verdict(81, 1007), x.verdict(80, 1006), x.alive(20, 2), x.alive(22, 1))
	again(asked)
	asked = append(asked[:len(asked)-1], x.take(x.verdict(80, 1007))...)
	again(asked)
	x.take(x.pushed(20, 1008))
	asked = slices.Delete(asked, len(asked)-2, len(asked)-1)
	again(asked)
	x.take(x.alive(21, 1))
	asked = slices.Delete(asked, 1, 2)
	again(asked)
	asked = append(asked[:len(asked)-1], x.take(x.pushed(21, 1007))...)
	again(asked)
	for _, from := range []int{20, 80, 81} {
		x.take(x.alive(from, 1))
		asked = asked[1:]
		again(asked)
	}
}

// It asks for itself when it waits for nothing, and tells nobody.
func TestItself(t *testing.T) {
	x := usual(t, "h")
	all := [][2]int{{api.Live, 20}, {api.Live, 21}, {api.Live, 80}, {api.Live, 81}}
	x.sends(x.tick(), [2]int{api.Resolve, 80}, [2]int{api.Resolve, 81})
	x.drain()
	number := 0
	for range 3 {
		got := x.tick()
		x.sends(got, all...)
		for _, m := range got {
			if m.A <= number || m.A != got[0].A || m.B != 1007 || m.C != 0 || len(m.Body) > 0 || m.From != 60 || m.Epoch != 5 {
				t.Errorf("%+v", m)
			}
		}
		number = got[0].A
		x.sends(x.take(x.alive(21, number)))
		x.passes(x.alive(21, number), x.alive(20, number+1), x.alive(20, number-1))
		x.sends(x.tick(), all[0], all[2], all[3])
		// A guest's is another one.
		x.sends(x.take(x.asksVersion(100, number)), all...)
		x.tells(x.drain(), [4]int{100, number, api.Open, 1007})
		number++
	}
}

// Whoever asks a version of its own node is a guest to it.
func TestItselfIsNoGuest(t *testing.T) {
	x := opened(t)
	x.tick()
	for number := range 5 {
		x.sends(x.take(x.asksVersion(60, number)), [2]int{api.Live, 20}, [2]int{api.Live, 21}, [2]int{api.Live, 80})
	}
	x.passes(x.asksVersion(60, 3))
	x.tells(x.drain(), [4]int{60, 0, api.Open, 1007}, [4]int{60, 1, api.Open, 1007}, [4]int{60, 2, api.Open, 1007}, [4]int{60, 3, api.Open, 1007}, [4]int{60, 4, api.Open, 1007})
}

// The first Tick asks nothing for itself, be there a batch or none.
func TestFirstTick(t *testing.T) {
	x := usual(t)
	x.sends(x.tick(), [2]int{api.Resolve, 80})
	x = newPair(t, 60, api.State{Epoch: 5, Chests: []int{20}}, api.Last, []int{80}, nil)
	x.sends(x.tick())
	x.sends(x.tick(), [2]int{api.Live, 20}, [2]int{api.Live, 80})
	x.sends(x.tick(), [2]int{api.Live, 20}, [2]int{api.Live, 80})
}

func TestStuck(t *testing.T) {
	x := usual(t, "h")
	stuck := func(want int) {
		t.Helper()
		if n := x.f.Stuck(); n != want {
			t.Errorf("Stuck: %d, not %d", n, want)
		}
	}
	ticks := func(was, more int) {
		t.Helper()
		for n := range more {
			stuck(was + n)
			x.tick()
			stuck(was + n + 1)
		}
	}
	stuck(0)
	x.take(x.asksCommit(100, 1, fineTxns()[3])) // waits for a Tick, not the front for it
	x.tick()
	stuck(0)
	ticks(0, 5)
	x.passes(x.verdict(80, 1007), x.verdict(80, 1017, 1), x.verdict(82, 1007, 1), x.pushed(20, 1007), x.alive(20, 1), x.asksCommit(100, 1, fineTxns()[3]))
	ticks(5, 2)
	x.take(x.asksCommit(100, 2, fineTxns()[4]))
	x.take(x.asksVersion(100, 1))
	x.take(x.from(api.Ask, 100, 3, 2, nil))
	ticks(7, 2)
	x.take(x.alive(20, 1)) // anything that it waits for
	ticks(0, 3)
	x.passes(x.alive(20, 1))
	ticks(3, 20)
	x.take(x.verdict(80, 1007, 1))
	ticks(0, 2)
	x.take(x.verdict(81, 1007, 1))
	ticks(0, 2)
	x.passes(x.pushed(20, 1006), x.verdict(81, 1007, 1))
	ticks(2, 1)
	x.take(x.pushed(20, 1007))
	ticks(0, 2)
	x.take(x.pushed(21, 1007)) // another one begins
	ticks(0, 1)
	x.drain()
	stuck(0)
	x.tick() // it waited for nothing
	stuck(0)
	ticks(0, 4)
	x.take(x.alive(81, x.p.lives))
	stuck(0)
	x.drain()
	for range 5 {
		x.tick()
		stuck(0)
		x.drain()
	}
}

// At the first Tick, too, it may have waited.
func TestStuckAtFirst(t *testing.T) {
	x := usual(t)
	x.take(x.asksVersion(100, 1))
	x.tick()
	if x.f.Stuck() != 1 {
		t.Errorf("Stuck: %d", x.f.Stuck())
	}
}

// A node that is named twice, or as a chest and as a referee, has answered with one answer.
func TestNamedTwice(t *testing.T) {
	f, e := New(60, api.State{Epoch: 5, Recovered: 7, Chests: []int{20, 20}}, 7, []int{20, 20}, []string{"h"})
	if e != api.OK {
		t.Fatal(e)
	}
	take := func(kind, a, b int, body []byte) []api.Message {
		return f.Take(api.Message{Kind: kind, From: 20, To: 60, Epoch: 5, A: a, B: b, Body: body})
	}
	f.Tick()
	take(api.Ask, 1, 2, txnBytes(fineTxns()[3]))
	take(api.Verdict, 1007, 0, nil)
	if l := take(api.Pushed, 1007, 0, nil); len(l) == 0 || l[0].Kind != api.Resolve || l[0].C != 1 {
		t.Fatalf("%+v", l)
	}
	if l := take(api.Verdict, 1017, 0, []byte{1}); len(l) == 0 || l[0].Kind != api.Push {
		t.Fatalf("%+v", l)
	}
	if l := take(api.Pushed, 1017, 0, nil); len(l) == 0 || l[0].Kind != api.Tell || l[0].C != 1017 {
		t.Fatalf("%+v", l)
	}
	l := take(api.Ask, 1, 1, nil)
	if l = take(api.Alive, l[0].A, 0, nil); len(l) != 1 || l[0].Kind != api.Tell || l[0].C != 1017 {
		t.Fatalf("%+v", l)
	}
}

// R4

// wide: a list with spare room, all of which may be turned.
func wide[T any](list []T, spare T) []T {
	out := make([]T, len(list), len(list)+5)
	copy(out, list)
	for i := range out[len(list):cap(out)] {
		out[:cap(out)][len(list)+i] = spare
	}
	return out
}

// What was handed in is turned by who handed it in.
func TestHandedIn(t *testing.T) {
	chests, referees, bounds := []int{20, 21}, []int{80, 81}, []string{"h"}
	wideChests, wideReferees, wideBounds := wide(chests, -7), wide(referees, -8), wide(bounds, "-9")
	f, _ := New(60, api.State{Epoch: 5, Recovered: 7, Chests: wideChests}, 7, wideReferees, wideBounds)
	x := &pair{t, f, newPlain(60, api.State{Epoch: 5, Recovered: 7, Chests: chests}, 7, referees, bounds)}
	unchanged := func(what string) {
		t.Helper()
		if got := fmt.Sprint(wideChests[:7], wideReferees[:7], wideBounds[:6]); got != "[20 21 -7 -7 -7 -7 -7] [80 81 -8 -8 -8 -8 -8] [h -9 -9 -9 -9 -9]" {
			t.Fatalf("%s: %s", what, got)
		}
	}
	unchanged("New")
	x.tick()
	x.take(x.asksVersion(100, 1))
	unchanged("Tick")
	turn := func() {
		for i := range wideChests[:7] {
			wideChests[:7][i] = 99
		}
		for i := range wideReferees[:7] {
			wideReferees[:7][i] = 99
		}
		for i := range wideBounds[:6] {
			wideBounds[:6][i] = "\xff"
		}
	}
	turn()
	x.tick()
	x.drain()
	ask := func(number int, body []byte) {
		given := wide(body, 0xee)
		m := x.from(api.Ask, 100, number, 2, given)
		out := f.Take(m)
		if !bytes.Equal(given, body) || !bytes.Equal(given[:cap(given)][len(body):], bytes.Repeat([]byte{0xee}, 5)) {
			t.Errorf("%x was turned to %x", body, given[:cap(given)])
		}
		for i := range given[:cap(given)] {
			given[:cap(given)][i] = 0x55
		}
		m.Body = body
		x.is("Take", out, x.p.take(m))
	}
	for number := range 6 {
		ask(number+1, txnBytes(fineTxns()[3+number]))
	}
	for len(x.p.open) > 0 {
		m := x.answer(x.p.open[0])
		x.tick()
		given := wide(m.Body, 0xee)
		sent := m
		sent.Body = given
		out := f.Take(sent)
		if !bytes.Equal(given, m.Body) || !bytes.Equal(given[:cap(given)][len(given):], bytes.Repeat([]byte{0xee}, 5)) {
			t.Errorf("%x was turned to %x", m.Body, given[:cap(given)])
		}
		for i := range given[:cap(given)] {
			given[:cap(given)][i] = 2
		}
		x.is("Take", out, x.p.take(m))
	}
}

// turned: all that was answered is turned, spare room too, and nothing of it is anything to another one.
func turned(t *testing.T, list []api.Message) {
	t.Helper()
	full := list[:cap(list)]
	for i := range full {
		full[i].Body = full[i].Body[:cap(full[i].Body)]
	}
	for i := range full {
		for j := range full[i].Body {
			full[i].Body[j] = byte(i)
		}
	}
	for i := range full {
		if bytes.ContainsFunc(full[i].Body, func(r rune) bool { return r != rune(i) }) {
			t.Fatalf("%d of %d shares a body with another one", i, len(full))
		}
	}
	for i := range full {
		full[i] = api.Message{Kind: -1, From: -1, To: -1, Epoch: -1, A: -1, B: -1, C: -1}
	}
}

// What was answered is turned by who has it.
func TestAnswered(t *testing.T) {
	f, _ := New(60, api.State{Epoch: 5, Recovered: 7, Chests: []int{20, 21, 22}}, 7, []int{80, 81}, []string{"h"})
	x := &pair{t, f, newPlain(60, api.State{Epoch: 5, Recovered: 7, Chests: []int{20, 21, 22}}, 7, []int{80, 81}, []string{"h"})}
	do := func(m api.Message) {
		t.Helper()
		out, want := f.Take(m), x.p.take(m)
		x.is("Take", out, want)
		turned(t, out)
		out = f.Tick()
		x.is("Tick", out, x.p.tick())
		turned(t, out)
	}
	for number := range 9 {
		do(x.asksVersion(100, number))
		do(x.asksCommit(100, number, fineTxns()[1+number]))
	}
	for range 200 {
		if len(x.p.open) > 0 {
			do(x.answer(x.p.open[len(x.p.open)/2]))
		}
	}
	if _, known := f.Ends(); known < 1027 {
		t.Errorf("only %d is committed", known)
	}
}

// Two fronts, even of the same, are nothing to each other.
func TestTwo(t *testing.T) {
	one, two := opened(t), opened(t)
	one.take(one.asksCommit(100, 1, fineTxns()[3]))
	one.take(one.asksVersion(100, 1))
	two.same("the other one's")
	two.sends(two.tick(), [2]int{api.Live, 20}, [2]int{api.Live, 21}, [2]int{api.Live, 80})
	two.sends(two.take(two.asksVersion(100, 1)), [2]int{api.Live, 20}, [2]int{api.Live, 21}, [2]int{api.Live, 80})
	two.sends(two.take(two.asksCommit(100, 1, fineTxns()[4])), [2]int{api.Resolve, 80})
	one.tells(one.drain(), [4]int{100, 1, api.Open, 1007}, [4]int{100, 1, api.Committed, 1017})
	two.tells(two.drain(), [4]int{100, 1, api.Open, 1007}, [4]int{100, 1, api.Committed, 1017})
}
