package ballot

import (
	"fmt"
	"math"
	"math/rand/v2"
	"reflect"
	"slices"
	"strings"
	"testing"

	"roundhouse/api"
	"roundhouse/code"
	"roundhouse/frame"
)

const (
	least = math.MinInt
	most  = math.MaxInt
)

func at(number, node int) api.Ballot { return api.Ballot{Number: number, Node: node} }

func state(generation, epoch, recovered int, chests ...int) api.State {
	return api.State{Generation: generation, Epoch: epoch, Recovered: recovered, Chests: chests}
}

func vow(promised, at api.Ballot, taken api.State) api.Vow {
	return api.Vow{Promised: promised, At: at, Taken: taken}
}

// gen: a state that is told apart by its generation alone.
func gen(n int) api.State { return state(n, n+1, n+2, n%256) }

func sameState(a, b api.State) bool {
	return a.Generation == b.Generation && a.Epoch == b.Epoch && a.Recovered == b.Recovered && slices.Equal(a.Chests, b.Chests)
}

func same(a, b api.Vow) bool {
	return a.Promised == b.Promised && a.At == b.At && sameState(a.Taken, b.Taken)
}

// deep: a state, or a vow, in memory of its own, with no spare room.
func deep(s api.State) api.State {
	s.Chests = append(make([]int, 0, len(s.Chests)), s.Chests...)
	return s
}

func deepVow(v api.Vow) api.Vow { return vow(v.Promised, v.At, deep(v.Taken)) }

// ballots: all of some numbers and nodes, rising.
func ballots() []api.Ballot {
	var out []api.Ballot
	ends := []int{least, least + 1, -256, -2, -1, 0, 1, 2, 3, 255, 256, 1 << 32, most - 1, most}
	for _, number := range ends {
		for _, node := range ends {
			out = append(out, at(number, node))
		}
	}
	return out
}

// soundStates, badStates: those that are sound, and some that are not.
func soundStates() []api.State {
	return []api.State{
		{}, state(0, 0, 0, 0), state(1, 0, 0), state(0, 1, 0), state(0, 0, 1), state(1, 2, 3, 20, 21, 22), state(127, 128, 129, 255), state(16383, 16384, 16385, 127, 128),
		state(most, most, most, 255, 255), state(5, 5, 5, slices.Repeat([]int{255}, 16)...), state(5, 5, 5, slices.Repeat([]int{0}, 16)...), state(9, 8, 7, 22, 20, 20, 21),
	}
}

func badStates() []api.State {
	out := []api.State{
		state(-1, 0, 0), state(0, -1, 0), state(0, 0, -1), state(least, 1, 1), state(1, least, 1), state(1, 1, least), state(-1, -1, -1, -1),
		state(1, 1, 1, slices.Repeat([]int{20}, 17)...), state(1, 1, 1, make([]int, 1000)...),
	}
	for _, wrong := range []int{-1, 256, least, most, 1 << 32} {
		out = append(out, state(1, 2, 3, wrong), state(1, 2, 3, wrong, 20, 21), state(1, 2, 3, 20, wrong, 21), state(1, 2, 3, append(slices.Repeat([]int{20}, 15), wrong)...))
	}
	return out
}

// A second, plain way of making and reading bytes

// number: a number's bytes, by division.
func number(n int) string {
	if n < 0 {
		return ""
	}
	if n < 128 {
		return string([]byte{byte(n)})
	}
	return string([]byte{byte(n%128 + 128)}) + number(n/128)
}

func numbers(list ...int) string {
	var b strings.Builder
	for _, n := range list {
		b.WriteString(number(n))
	}
	return b.String()
}

func vowBytes(v api.Vow) string {
	s := v.Taken
	return numbers(v.Promised.Number, v.Promised.Node, v.At.Number, v.At.Node, s.Generation, s.Epoch, s.Recovered, len(s.Chests)) + numbers(s.Chests...)
}

// groups: the numbers that bytes are, if they are numbers alone.
func groups(b []byte) ([]int, bool) {
	var out []int
	for len(b) > 0 {
		n := slices.IndexFunc(b, func(c byte) bool { return c < 128 })
		if n < 0 || n > 8 || n > 0 && b[n] == 0 {
			return nil, false
		}
		value := 0
		for i := n; i >= 0; i-- {
			value = value*128 + int(b[i]%128)
		}
		out, b = append(out, value), b[n+1:]
	}
	return out, true
}

// plain: the vow that bytes are, if they are one.
func plain(b []byte) (api.Vow, bool) {
	n, ok := groups(b)
	if !ok || len(n) < 8 || n[7] != len(n)-8 || len(n) > 24 || slices.ContainsFunc(n[8:], func(c int) bool { return c > 255 }) {
		return api.Vow{}, false
	}
	if slices.Compare(n[:2], n[2:4]) < 0 {
		return api.Vow{}, false
	}
	return vow(at(n[0], n[1]), at(n[2], n[3]), state(n[4], n[5], n[6], n[8:]...)), true
}

// What has to be

func promise(t *testing.T, v api.Vow, b api.Ballot, want api.Vow, given bool) {
	t.Helper()
	if got, ok := Promise(v, b); !same(got, want) || ok != given {
		t.Errorf("Promise(%+v, %+v): %+v, %v, not %+v, %v", v, b, got, ok, want, given)
	}
}

func take(t *testing.T, v api.Vow, b api.Ballot, s api.State, want api.Vow, taken bool) {
	t.Helper()
	if got, ok := Take(v, b, s); !same(got, want) || ok != taken {
		t.Errorf("Take(%+v, %+v, %+v): %+v, %v, not %+v, %v", v, b, s, got, ok, want, taken)
	}
}

func best(t *testing.T, want api.State, list ...api.Vow) {
	t.Helper()
	if got := Best(list...); !sameState(got, want) {
		t.Errorf("Best(%+v): %+v, not %+v", list, got, want)
	}
}

// sound: is the vow told as these bytes, and are these the vow?
func sound(t *testing.T, v api.Vow, want string) {
	t.Helper()
	if got, e := Encode(v); string(got) != want || e != api.OK {
		t.Errorf("Encode(%+v): %x, %d, not %x", v, got, e, want)
	}
	if got, e := Decode([]byte(want)); !same(got, v) || e != api.OK {
		t.Errorf("Decode(%x): %+v, %d, not %+v", want, got, e, v)
	}
}

func notTold(t *testing.T, v api.Vow) {
	t.Helper()
	if got, e := Encode(v); got != nil || e != api.ErrForm {
		t.Errorf("Encode(%+v): %x, %d", v, got, e)
	}
}

func notRead(t *testing.T, b string) {
	t.Helper()
	if got, e := Decode([]byte(b)); !reflect.DeepEqual(got, api.Vow{}) || e != api.ErrForm {
		t.Errorf("Decode(%.99x): %+v, %d", b, got, e)
	}
}

// P13.1: Less

func TestLess(t *testing.T) {
	for _, c := range []struct {
		a, b api.Ballot
		want bool
	}{
		{at(0, 0), at(0, 0), false},
		{at(1, 1), at(1, 1), false},
		{at(most, most), at(most, most), false},
		{at(least, least), at(least, least), false},
		{at(1, 5), at(2, 5), true},
		{at(2, 5), at(1, 5), false},
		{at(1, 5), at(1, 6), true},
		{at(1, 6), at(1, 5), false},
		{at(1, 5), at(2, 6), true},
		{at(2, 6), at(1, 5), false},
		{at(1, 6), at(2, 5), true}, // Number goes ahead of Node
		{at(2, 5), at(1, 6), false},
		{at(0, most), at(1, 0), true},
		{at(0, most), at(1, least), true},
		{at(1, least), at(0, most), false},
		{at(least, 0), at(most, 0), true}, // whose difference is no int
		{at(most, 0), at(least, 0), false},
		{at(0, least), at(0, most), true},
		{at(0, most), at(0, least), false},
		{at(-1, 0), at(0, 0), true},
		{at(0, -1), at(0, 0), true},
		{at(0, 0), at(0, -1), false},
		{at(-1, 9), at(0, 0), true},
		{at(most-1, most), at(most, most), true},
		{at(most, most-1), at(most, most), true},
		{at(least, most), at(least+1, least), true},
	} {
		if got := Less(c.a, c.b); got != c.want {
			t.Errorf("Less(%+v, %+v): %v", c.a, c.b, got)
		}
	}
}

func TestLessAll(t *testing.T) {
	list := ballots()
	for i, a := range list {
		for j, b := range list {
			if got := Less(a, b); got != (i < j) {
				t.Errorf("Less(%+v, %+v): %v", a, b, got)
			}
		}
	}
}

// P13.1: Promise

func TestPromise(t *testing.T) {
	some := vow(at(4, 60), at(3, 61), gen(7))
	for _, c := range []struct {
		v     api.Vow
		b     api.Ballot
		want  api.Vow
		given bool
	}{
		{api.Vow{}, at(0, 0), api.Vow{}, false},
		{api.Vow{}, at(0, 1), vow(at(0, 1), at(0, 0), api.State{}), true},
		{api.Vow{}, at(1, 0), vow(at(1, 0), at(0, 0), api.State{}), true},
		{api.Vow{}, at(1, -1), vow(at(1, -1), at(0, 0), api.State{}), true},
		{api.Vow{}, at(most, most), vow(at(most, most), at(0, 0), api.State{}), true},
		{api.Vow{}, at(0, -1), api.Vow{}, false},
		{api.Vow{}, at(-1, 9), api.Vow{}, false},
		{api.Vow{}, at(least, least), api.Vow{}, false},
		{some, at(0, 0), some, false},
		{some, at(3, 61), some, false}, // its At
		{some, at(3, most), some, false},
		{some, at(4, 59), some, false},
		{some, at(4, least), some, false},
		{some, at(4, 60), some, false},
		{some, at(4, 61), vow(at(4, 61), at(3, 61), gen(7)), true},
		{some, at(5, 0), vow(at(5, 0), at(3, 61), gen(7)), true},
		{some, at(5, least), vow(at(5, least), at(3, 61), gen(7)), true},
		{some, at(most, most), vow(at(most, most), at(3, 61), gen(7)), true},
		{vow(at(most, most), at(1, 1), gen(2)), at(most, most), vow(at(most, most), at(1, 1), gen(2)), false},
		{vow(at(most, most-1), at(1, 1), gen(2)), at(most, most), vow(at(most, most), at(1, 1), gen(2)), true},
		{vow(at(least, least), at(0, 0), gen(2)), at(least, least), vow(at(least, least), at(0, 0), gen(2)), false},
		{vow(at(least, least), at(0, 0), gen(2)), at(least, least+1), vow(at(least, least+1), at(0, 0), gen(2)), true},
		{vow(at(4, 60), at(4, 60), gen(7)), at(4, 60), vow(at(4, 60), at(4, 60), gen(7)), false},
		{vow(at(4, 60), at(9, 9), gen(7)), at(5, 0), vow(at(5, 0), at(9, 9), gen(7)), true}, // no sound one: At counts for nothing
		{vow(at(4, 60), at(-9, -9), state(-1, -1, -1, -1)), at(5, 0), vow(at(5, 0), at(-9, -9), state(-1, -1, -1, -1)), true},
	} {
		promise(t, c.v, c.b, c.want, c.given)
	}
}

func TestPromiseAll(t *testing.T) {
	list := ballots()
	for i, promised := range list {
		v := vow(promised, list[(7*i)%len(list)], gen(i))
		for j, b := range list {
			want := v
			if j > i {
				want.Promised = b
			}
			promise(t, v, b, want, j > i)
		}
	}
	for _, s := range append(soundStates(), badStates()...) {
		promise(t, vow(at(2, 2), at(1, 1), s), at(2, 3), vow(at(2, 3), at(1, 1), s), true)
		promise(t, vow(at(2, 2), at(1, 1), s), at(2, 2), vow(at(2, 2), at(1, 1), s), false)
	}
}

// A ballot is promised once.
func TestPromiseTwice(t *testing.T) {
	v, _ := Promise(vow(at(1, 1), at(1, 1), gen(3)), at(2, 0))
	promise(t, v, at(2, 0), vow(at(2, 0), at(1, 1), gen(3)), false)
	promise(t, v, at(1, 9), vow(at(2, 0), at(1, 1), gen(3)), false)
	promise(t, v, at(2, 1), vow(at(2, 1), at(1, 1), gen(3)), true)
}

// P13.1: Take

func TestTake(t *testing.T) {
	some := vow(at(4, 60), at(3, 61), gen(7))
	taken := func(b api.Ballot, s api.State) api.Vow { return vow(b, b, s) }
	for _, c := range []struct {
		v    api.Vow
		b    api.Ballot
		s    api.State
		want api.Vow
		ok   bool
	}{
		{api.Vow{}, at(0, 0), gen(1), taken(at(0, 0), gen(1)), true},
		{api.Vow{}, at(0, 1), gen(1), taken(at(0, 1), gen(1)), true},
		{api.Vow{}, at(1, 0), api.State{}, taken(at(1, 0), api.State{}), true},
		{api.Vow{}, at(0, -1), gen(1), api.Vow{}, false},
		{api.Vow{}, at(-1, 9), gen(1), api.Vow{}, false},
		{api.Vow{}, at(most, most), gen(1), taken(at(most, most), gen(1)), true},
		{some, at(0, 0), gen(9), some, false},
		{some, at(3, 61), gen(9), some, false}, // its At
		{some, at(3, most), gen(9), some, false},
		{some, at(4, 59), gen(9), some, false},
		{some, at(4, least), gen(9), some, false},
		{some, at(4, 60), gen(9), taken(at(4, 60), gen(9)), true},
		{some, at(4, 61), gen(9), taken(at(4, 61), gen(9)), true},
		{some, at(5, 0), gen(9), taken(at(5, 0), gen(9)), true},
		{some, at(5, least), gen(9), taken(at(5, least), gen(9)), true},
		{some, at(4, 60), api.State{}, taken(at(4, 60), api.State{}), true},
		{some, at(4, 60), gen(2), taken(at(4, 60), gen(2)), true}, // a lesser generation, too
		{some, at(4, 60), state(-1, -2, -3, 256, -1), taken(at(4, 60), state(-1, -2, -3, 256, -1)), true},
		{some, at(4, 59), state(-1, -2, -3, 256, -1), some, false},
		{some, at(4, 60), state(1, 2, 3, make([]int, 17)...), taken(at(4, 60), state(1, 2, 3, make([]int, 17)...)), true},
		{vow(at(4, 60), at(9, 9), gen(7)), at(5, 0), gen(9), taken(at(5, 0), gen(9)), true}, // no sound one: At counts for nothing
		{vow(at(4, 60), at(9, 9), gen(7)), at(4, 59), gen(9), vow(at(4, 60), at(9, 9), gen(7)), false},
		{vow(at(most, most), at(1, 1), gen(7)), at(most, most), gen(9), taken(at(most, most), gen(9)), true},
		{vow(at(most, most), at(1, 1), gen(7)), at(most, most-1), gen(9), vow(at(most, most), at(1, 1), gen(7)), false},
		{vow(at(least, least), at(1, 1), gen(7)), at(least, least), gen(9), taken(at(least, least), gen(9)), true},
	} {
		take(t, c.v, c.b, c.s, c.want, c.ok)
	}
}

func TestTakeAll(t *testing.T) {
	list := ballots()
	for i, promised := range list {
		v := vow(promised, list[(7*i)%len(list)], gen(i))
		for j, b := range list {
			want := v
			if j >= i {
				want = vow(b, b, gen(1000+j))
			}
			take(t, v, b, gen(1000+j), want, j >= i)
		}
	}
	for _, s := range append(soundStates(), badStates()...) {
		take(t, vow(at(2, 2), at(1, 1), gen(5)), at(2, 2), s, vow(at(2, 2), at(2, 2), s), true)
		take(t, vow(at(2, 2), at(1, 1), s), at(2, 1), gen(5), vow(at(2, 2), at(1, 1), s), false)
	}
}

// At one ballot the last state counts.
func TestTakeTwice(t *testing.T) {
	v, _ := Promise(api.Vow{}, at(2, 1))
	one, ok := Take(v, at(2, 1), gen(3))
	if !ok {
		t.Fatal("what was promised is not taken")
	}
	take(t, one, at(2, 1), gen(4), vow(at(2, 1), at(2, 1), gen(4)), true)
	take(t, one, at(2, 1), gen(3), one, true)
	take(t, one, at(2, 0), gen(4), one, false)
	promise(t, one, at(2, 1), one, false)
	promise(t, one, at(2, 2), vow(at(2, 2), at(2, 1), gen(3)), true)
}

// P13.2: Best

func TestBest(t *testing.T) {
	none := vow(at(9, 9), at(0, 0), gen(1))
	a, b, c := vow(at(9, 9), at(1, 0), gen(2)), vow(at(9, 9), at(1, 1), gen(3)), vow(at(2, 0), at(2, 0), gen(4))
	like := vow(at(3, 0), at(2, 0), gen(5))
	for _, x := range []struct {
		want api.State
		list []api.Vow
	}{
		{api.State{}, nil},
		{api.State{}, []api.Vow{}},
		{api.State{}, []api.Vow{{}}},
		{api.State{}, []api.Vow{{}, {}, {}}},
		{api.State{}, []api.Vow{none}},
		{api.State{}, []api.Vow{none, none}},
		{gen(2), []api.Vow{a}},
		{gen(2), []api.Vow{none, a}},
		{gen(2), []api.Vow{a, none}},
		{gen(3), []api.Vow{a, b}},
		{gen(3), []api.Vow{b, a}},
		{gen(4), []api.Vow{c, b, a, none}}, // at the first place
		{gen(4), []api.Vow{a, c, b}},
		{gen(4), []api.Vow{none, a, c, b, none}},
		{gen(4), []api.Vow{a, b, c}}, // at the last place
		{gen(4), []api.Vow{none, b, a, c}},
		{gen(4), []api.Vow{c, like}}, // of equal ones the first
		{gen(5), []api.Vow{like, c}},
		{gen(4), []api.Vow{a, c, like, b}},
		{gen(5), []api.Vow{a, like, b, c, c}},
		{gen(3), []api.Vow{vow(at(most, most), at(1, 0), gen(9)), b}}, // Promised counts for nothing
		{gen(3), []api.Vow{b, vow(at(most, most), at(1, 0), gen(9))}},
		{gen(3), []api.Vow{vow(at(0, 0), at(1, 1), gen(3)), a}},
		{gen(2), []api.Vow{a, vow(at(9, 9), at(0, 99), gen(9))}},
		{gen(2), []api.Vow{vow(at(9, 9), at(0, most), gen(9)), a}},
		{gen(9), []api.Vow{vow(at(9, 9), at(0, 1), gen(9))}}, // the least above the ballot without anything
		{gen(9), []api.Vow{none, vow(at(0, 0), at(0, 1), gen(9)), none}},
		{gen(9), []api.Vow{vow(at(9, 9), at(1, least), gen(9))}},
		{api.State{}, []api.Vow{vow(at(9, 9), at(0, -1), gen(9))}}, // below it
		{api.State{}, []api.Vow{vow(at(9, 9), at(-1, 5), gen(9))}},
		{api.State{}, []api.Vow{vow(at(9, 9), at(least, least), gen(9)), vow(at(9, 9), at(-1, most), gen(8))}},
		{api.State{}, []api.Vow{vow(at(9, 9), at(-1, 5), gen(9)), none, {}}},
		{api.State{}, []api.Vow{none, vow(at(9, 9), at(0, -1), gen(9))}},
		{gen(2), []api.Vow{vow(at(9, 9), at(-1, 5), gen(9)), a}},
		{gen(2), []api.Vow{a, vow(at(9, 9), at(least, most), gen(9))}},
		{gen(9), []api.Vow{vow(at(9, 9), at(most, most-1), gen(8)), vow(at(9, 9), at(most, most), gen(9)), vow(at(9, 9), at(most-1, most), gen(7))}},
		{api.State{}, []api.Vow{vow(at(3, 3), at(3, 3), api.State{}), a, b}}, // nothing was taken at the greatest
		{state(-1, -1, -1, -1, 256), []api.Vow{a, vow(at(3, 3), at(3, 3), state(-1, -1, -1, -1, 256))}},
	} {
		best(t, x.want, x.list...)
	}
}

// bestPlain: the state of the vow that stands last, when those that count are sorted and, of equal ones, the first stands last.
func bestPlain(list []api.Vow) api.State {
	var count []api.Vow
	for _, v := range slices.Backward(list) {
		if v.At.Number > 0 || v.At.Number == 0 && v.At.Node > 0 {
			count = append(count, v)
		}
	}
	slices.SortStableFunc(count, func(a, b api.Vow) int {
		return slices.Compare([]int{a.At.Number, a.At.Node}, []int{b.At.Number, b.At.Node})
	})
	if len(count) == 0 {
		return api.State{}
	}
	return count[len(count)-1].Taken
}

// All lists of at most four vows at some ballots, each with a state of its own.
func TestBestPlain(t *testing.T) {
	places := []api.Ballot{at(-1, 3), at(0, -1), at(0, 0), at(0, 1), at(1, 0), at(1, 1), at(2, 0), at(most, most)}
	var all func(list []api.Vow)
	all = func(list []api.Vow) {
		best(t, bestPlain(list), list...)
		if len(list) == 4 {
			return
		}
		for i, b := range places {
			all(append(slices.Clone(list), vow(at(9, 9), b, gen(10*len(list)+i+1))))
		}
	}
	all(nil)
}

func TestBestMany(t *testing.T) {
	pick := rand.New(rand.NewPCG(13, 1))
	for range 200 {
		var list []api.Vow
		for i := range pick.IntN(3000) {
			list = append(list, vow(at(pick.IntN(9), 0), at(pick.IntN(60)-2, pick.IntN(60)-2), gen(i)))
		}
		if got, want := Best(list...), bestPlain(list); !sameState(got, want) {
			t.Fatalf("Best of %d: %+v, not %+v", len(list), got, want)
		}
	}
}

// P13.2: Encode and Decode

func TestBytes(t *testing.T) {
	for _, c := range []struct {
		v    api.Vow
		want string
	}{
		{api.Vow{}, "\x00\x00\x00\x00\x00\x00\x00\x00"},
		{vow(at(1, 2), at(0, 0), api.State{}), "\x01\x02\x00\x00\x00\x00\x00\x00"},
		{vow(at(4, 3), at(2, 1), state(5, 6, 7)), "\x04\x03\x02\x01\x05\x06\x07\x00"},
		{vow(at(3, 0), at(3, 0), state(4, 0, 0, 20)), "\x03\x00\x03\x00\x04\x00\x00\x01\x14"},
		{vow(at(3, 61), at(3, 60), state(2, 3, 1000, 20, 22, 21)), "\x03\x3d\x03\x3c\x02\x03\xe8\x07\x03\x14\x16\x15"},
		{vow(at(3, 0), at(2, 255), state(1, 1, 1, 255, 0)), "\x03\x00\x02\xff\x01\x01\x01\x01\x02\xff\x01\x00"},
		{vow(at(127, 128), at(127, 127), state(128, 16383, 16384)), "\x7f\x80\x01\x7f\x7f\x80\x01\xff\x7f\x80\x80\x01\x00"},
		{vow(at(most, most), at(0, 0), api.State{}), strings.Repeat("\xff\xff\xff\xff\xff\xff\xff\xff\x7f", 2) + "\x00\x00\x00\x00\x00\x00"},
		{vow(at(most, most), at(most, most), state(most, most, most)), strings.Repeat("\xff\xff\xff\xff\xff\xff\xff\xff\x7f", 7) + "\x00"},
		{vow(at(1, 0), at(0, most), api.State{}), "\x01\x00\x00\xff\xff\xff\xff\xff\xff\xff\xff\x7f\x00\x00\x00\x00"},
		{vow(at(0, 1000), at(0, 999), state(1, 1, 1, slices.Repeat([]int{255}, 16)...)), "\x00\xe8\x07\x00\xe7\x07\x01\x01\x01\x10" + strings.Repeat("\xff\x01", 16)},
	} {
		sound(t, c.v, c.want)
		if plainly := vowBytes(c.v); plainly != c.want {
			t.Errorf("the plain way: %x, not %x", plainly, c.want)
		}
	}
}

// All ballots from 0 on, At at, below and above Promised; a vow's ballots, and its state, are told whatever the others are.
func TestBallotsInBytes(t *testing.T) {
	var list []api.Ballot
	for _, b := range ballots() {
		if b.Number >= 0 && b.Node >= 0 {
			list = append(list, b)
		}
	}
	for i, promised := range list {
		for j, taken := range list {
			v := vow(promised, taken, soundStates()[(i+j)%len(soundStates())])
			if j <= i {
				sound(t, v, vowBytes(v))
				continue
			}
			notTold(t, v)
			notRead(t, vowBytes(v))
		}
	}
}

func TestAtAbovePromised(t *testing.T) {
	for _, v := range []api.Vow{
		vow(at(0, 0), at(1, 0), api.State{}), vow(at(0, 0), at(0, 1), api.State{}), vow(at(3, 5), at(3, 6), gen(4)), vow(at(3, 5), at(4, 0), gen(4)), vow(at(3, 5), at(4, 5), gen(4)),
		vow(at(3, most), at(4, 0), gen(4)), vow(at(0, 0), at(most, most), gen(4)), vow(at(most, most-1), at(most, most), gen(4)), vow(at(most-1, most), at(most, 0), gen(4)),
	} {
		notTold(t, v)
		notRead(t, vowBytes(v))
		v.Promised, v.At = v.At, v.Promised
		sound(t, v, vowBytes(v))
	}
}

func TestStatesInBytes(t *testing.T) {
	for _, ballots := range [][2]api.Ballot{{at(0, 0), at(0, 0)}, {at(5, 60), at(0, 0)}, {at(5, 60), at(4, 62)}, {at(5, 60), at(5, 60)}, {at(most, most), at(most, most)}} {
		for _, s := range soundStates() {
			v := vow(ballots[0], ballots[1], s)
			sound(t, v, vowBytes(v))
		}
		for _, s := range badStates() {
			notTold(t, vow(ballots[0], ballots[1], s))
		}
		for _, s := range []api.State{state(1, 1, 1, 256), state(1, 1, 1, 20, 256, 21), state(1, 1, 1, most), state(1, 1, 1, slices.Repeat([]int{20}, 17)...), state(1, 1, 1, make([]int, 300)...)} {
			notRead(t, vowBytes(vow(ballots[0], ballots[1], s)))
		}
	}
}

// Each number below 0, by itself.
func TestBelow0(t *testing.T) {
	for _, n := range []int{-1, -2, -128, least, least + 1} {
		for _, v := range []api.Vow{
			vow(at(n, 0), at(0, 0), api.State{}), vow(at(n, 0), at(n, 0), api.State{}), vow(at(0, n), at(0, n), api.State{}), vow(at(n, n), at(n, n), api.State{}),
			vow(at(5, n), at(0, 0), gen(3)), vow(at(5, n), at(4, 4), gen(3)), // At is below Promised in all of these
			vow(at(5, 5), at(n, 0), gen(3)), vow(at(5, 5), at(n, 9), gen(3)), vow(at(5, 5), at(4, n), gen(3)), vow(at(5, 5), at(5, n), gen(3)), vow(at(5, 5), at(0, n), gen(3)),
			vow(at(0, 0), at(0, n), api.State{}), vow(at(0, 0), at(n, 0), api.State{}),
			vow(at(5, 5), at(4, 4), state(n, 1, 1)), vow(at(5, 5), at(4, 4), state(1, n, 1)), vow(at(5, 5), at(4, 4), state(1, 1, n)), vow(at(5, 5), at(4, 4), state(1, 1, 1, 20, n)),
			vow(at(0, 0), at(0, 0), state(n, 0, 0)), vow(at(0, 0), at(0, 0), state(0, n, 0)), vow(at(0, 0), at(0, 0), state(0, 0, n)), vow(at(0, 0), at(0, 0), state(0, 0, 0, n)),
		} {
			notTold(t, v)
		}
	}
}

// vows: those whose bytes are cut, gone on with and turned.
func vows() []api.Vow {
	return []api.Vow{
		{}, vow(at(3, 1), at(2, 2), state(4, 5, 6, 20, 21, 22)), vow(at(300, 200), at(300, 199), state(1000, 2000, 3000, 255, 128, 127)), vow(at(most, most), at(most, most), state(most, most, most, 255)),
		vow(at(5, 60), at(5, 60), state(1, 2, 3, slices.Repeat([]int{200}, 16)...)), vow(at(1<<32, 1<<16), at(1<<32, 1<<15), state(1<<8, 1<<7, 1<<6)),
	}
}

func TestCut(t *testing.T) {
	notRead(t, "")
	if v, e := Decode(nil); !reflect.DeepEqual(v, api.Vow{}) || e != api.ErrForm {
		t.Errorf("Decode(nil): %+v, %d", v, e)
	}
	for _, v := range vows() {
		b := vowBytes(v)
		sound(t, v, b)
		for n := range len(b) {
			notRead(t, b[:n])
			notRead(t, b[n+1:]+strings.Repeat("\x80", n)) // as many bytes, but no number at the end
		}
	}
}

func TestMoreBehind(t *testing.T) {
	for _, v := range vows() {
		b := vowBytes(v)
		for c := range 256 {
			notRead(t, b+string([]byte{byte(c)}))
		}
		notRead(t, b+b)
		notRead(t, b+strings.Repeat("\x00", 16))
		notRead(t, b+strings.Repeat("\xff", 100000))
	}
}

// Each number of a vow, written in more bytes than it needs, or in so many that it is none.
func TestLongNumbers(t *testing.T) {
	for _, v := range vows() {
		s := v.Taken
		list := append([]int{v.Promised.Number, v.Promised.Node, v.At.Number, v.At.Node, s.Generation, s.Epoch, s.Recovered, len(s.Chests)}, s.Chests...)
		for i, n := range list {
			ahead, behind := numbers(list[:i]...), numbers(list[i+1:]...)
			one := []byte(number(n))
			one[len(one)-1] |= 128
			for _, more := range []string{"\x00", "\x80\x00", "\x80\x80\x00", "\x80\x80\x80\x80\x80\x80\x80\x80\x00", "\x80\x80\x80\x80\x80\x80\x80\x80\x80\x00", "\x80\x80\x80\x80\x80\x80\x80\x80\x80\x01"} {
				notRead(t, ahead+string(one)+more+behind)
			}
			notRead(t, ahead+strings.Repeat("\xff", 9)+"\x01"+behind)
			notRead(t, ahead+strings.Repeat("\xff", 9)+behind)
			notRead(t, ahead+strings.Repeat("\x80", 12)+behind)
			notRead(t, ahead+behind) // one number too few
		}
	}
}

// How many chests there are has to be so many.
func TestWrongCounts(t *testing.T) {
	head := numbers(5, 60, 4, 60, 1, 2, 3)
	for said := range 40 {
		for are := range 40 {
			b := head + number(said) + strings.Repeat("\x14", are)
			if said == are && are <= api.MaxNodes {
				sound(t, vow(at(5, 60), at(4, 60), state(1, 2, 3, slices.Repeat([]int{20}, are)...)), b)
				continue
			}
			notRead(t, b)
		}
	}
	for _, said := range []int{1 << 20, 1 << 31, 1 << 32, most - 1, most} {
		notRead(t, head+number(said))
		notRead(t, head+number(said)+"\x14")
	}
}

// decodePlain: is Decode as the plain way has it, and is what was read told as the same bytes?
func decodePlain(t *testing.T, b []byte) bool {
	t.Helper()
	want, ok := plain(b)
	got, e := Decode(b)
	if ok != (e == api.OK) || !same(got, want) || !ok && (e != api.ErrForm || !reflect.DeepEqual(got, api.Vow{})) {
		t.Fatalf("Decode(%x): %+v, %d, not %+v, %v", b, got, e, want, ok)
	}
	if again, e := Encode(got); ok && (e != api.OK || string(again) != string(b)) {
		t.Fatalf("%x: there and back %x, %d", b, again, e)
	}
	return ok
}

// All texts of at most ten of some bytes.
func TestAllShort(t *testing.T) {
	found := 0
	var all func(b []byte)
	all = func(b []byte) {
		if decodePlain(t, b) {
			found++
		}
		if len(b) == 10 {
			return
		}
		for _, c := range []byte{0, 1, 128} {
			all(append(slices.Clone(b), c))
		}
	}
	all(nil)
	if found < 500 {
		t.Errorf("only %d vows were found", found)
	}
}

// Each byte of a vow turned into each other one.
func TestTurned(t *testing.T) {
	for _, v := range vows() {
		b := []byte(vowBytes(v))
		for i, was := range b {
			for c := range 256 {
				b[i] = byte(c)
				decodePlain(t, b)
			}
			b[i] = was
		}
	}
}

// Some vows, the same ones each time: there and back, and as the plain way has them, also when their bytes were turned.
func TestPicked(t *testing.T) {
	pick := rand.New(rand.NewPCG(13, 2))
	num := func() int { return pick.Int() >> pick.IntN(64) }
	for range 20000 {
		v := vow(at(num(), num()), at(num(), num()), state(num(), num(), num()))
		if pick.IntN(2) == 0 {
			v.At.Number = v.Promised.Number
		}
		for range pick.IntN(18) {
			v.Taken.Chests = append(v.Taken.Chests, pick.IntN(257))
		}
		b := vowBytes(v)
		if want, ok := plain([]byte(b)); ok {
			sound(t, want, b)
			sound(t, v, b)
		} else {
			notTold(t, v)
			notRead(t, b)
		}
		turned := []byte(b)
		for range 1 + pick.IntN(3) {
			turned[pick.IntN(len(turned))] ^= byte(1 << pick.IntN(8))
		}
		decodePlain(t, turned)
	}
}

// A vow's bytes are its ballots' and its state's, as the layers below have these.
func TestLayersBelow(t *testing.T) {
	for _, v := range vows() {
		front, e := code.Nums(v.Promised.Number, v.Promised.Node, v.At.Number, v.At.Node)
		back, f := frame.PutState(v.Taken)
		if got, g := Encode(v); e != api.OK || f != api.OK || g != api.OK || string(got) != string(front)+string(back) {
			t.Errorf("%+v: %x, not %x%x", v, got, front, back)
		}
	}
}

// A register that only takes what vows allow: of states that majorities have taken, all are the same.
func TestRegister(t *testing.T) {
	pick := rand.New(rand.NewPCG(13, 3))
	for range 3000 {
		var kept [3]api.Vow
		var chosen []api.State
		var votes = map[api.Ballot]int{}
		for try := 1; try <= 6; try++ {
			b := at(try/2+1, try%2)
			var promised []api.Vow
			for i := range kept {
				if v, ok := Promise(kept[i], b); ok && pick.IntN(3) > 0 {
					kept[i] = v
					promised = append(promised, v)
				}
			}
			if len(promised) < 2 {
				continue
			}
			s := Best(promised...)
			if sameState(s, api.State{}) {
				s = gen(try)
			}
			for i := range kept {
				if v, ok := Take(kept[i], b, s); ok && pick.IntN(3) > 0 {
					kept[i] = v
					votes[b]++
				}
			}
			if votes[b] >= 2 {
				chosen = append(chosen, s)
			}
		}
		for _, s := range chosen {
			if !sameState(s, chosen[0]) {
				t.Fatalf("taken by majorities: %+v", chosen)
			}
		}
	}
}

// Memory

// given: a state whose list has spare room.
func given(n int) api.State {
	room := []int{n, n + 1, n + 2, 98, 99}
	return state(n, n, n, room[:3]...)
}

// isGiven: is it as it was, spare room included?
func isGiven(t *testing.T, s api.State, n int) {
	t.Helper()
	if !sameState(s, state(n, n, n, n, n+1, n+2)) || !slices.Equal(s.Chests[:cap(s.Chests)], []int{n, n + 1, n + 2, 98, 99}) {
		t.Errorf("what was handed in is now %+v, of %v", s, s.Chests[:cap(s.Chests)])
	}
}

// blot turns all of a list, spare room included.
func blot[T any](list []T, x T) {
	list = list[:cap(list)]
	for i := range list {
		list[i] = x
	}
}

// blotted: is all of a list as blot left it?
func blotted[T comparable](list []T, x T) bool {
	return !slices.ContainsFunc(list[:cap(list)], func(y T) bool { return y != x })
}

// way: a call that answers a state, of a vow with given(20) and, where it takes one, given(40); whose of the two it answers.
type way struct {
	name string
	ask  func(v api.Vow, s api.State) api.State
	want int
}

func ways() []way {
	taken := func(v api.Vow, _ bool) api.State { return v.Taken }
	return []way{
		{"Promise", func(v api.Vow, s api.State) api.State { return taken(Promise(v, at(9, 9))) }, 20},
		{"Promise, not given", func(v api.Vow, s api.State) api.State { return taken(Promise(v, at(1, 1))) }, 20},
		{"Take", func(v api.Vow, s api.State) api.State { return taken(Take(v, at(9, 9), s)) }, 40},
		{"Take, at Promised", func(v api.Vow, s api.State) api.State { return taken(Take(v, at(5, 5), s)) }, 40},
		{"Take, not taken", func(v api.Vow, s api.State) api.State { return taken(Take(v, at(1, 1), s)) }, 20},
		{"Best of one", func(v api.Vow, s api.State) api.State { return Best(v) }, 20},
		{"Best, the first", func(v api.Vow, s api.State) api.State { return Best(v, vow(at(3, 3), at(3, 3), s)) }, 20},
		{"Best, the last", func(v api.Vow, s api.State) api.State { return Best(v, vow(at(9, 9), at(9, 9), s)) }, 40},
	}
}

func stateIs(t *testing.T, name string, s api.State, n int) {
	t.Helper()
	if !sameState(s, state(n, n, n, n, n+1, n+2)) {
		t.Errorf("%s: %+v, not given(%d)", name, s, n)
	}
}

// What is handed in is not turned; what who gave it does with it then is nothing to the answer.
func TestHandedIn(t *testing.T) {
	for _, w := range ways() {
		s, own := given(40), given(20)
		v := vow(at(5, 5), at(4, 4), own)
		got := w.ask(v, s)
		isGiven(t, s, 40)
		isGiven(t, own, 20)
		if v.Promised != at(5, 5) || v.At != at(4, 4) {
			t.Errorf("%s: the vow is now %+v", w.name, v)
		}
		stateIs(t, w.name, got, w.want)
		blot(s.Chests, 77)
		blot(own.Chests, 78)
		stateIs(t, w.name+", behind", got, w.want)
	}
}

// What was answered is the caller's: who turns it, spare room included, turns nothing that was given, and no other answer.
func TestAnswers(t *testing.T) {
	for _, w := range ways() {
		s, own := given(40), given(20)
		v := vow(at(5, 5), at(4, 4), own)
		one, two := w.ask(v, s), w.ask(v, s)
		blot(one.Chests, 77)
		isGiven(t, s, 40)
		isGiven(t, own, 20)
		stateIs(t, w.name, two, w.want)
		blot(two.Chests, 78)
		if !blotted(one.Chests, 77) || !blotted(two.Chests, 78) {
			t.Errorf("%s: two answers share their memory", w.name)
		}
	}
}

// An answer of an answer, too, is memory of its own.
func TestAnswersOfAnswers(t *testing.T) {
	first, _ := Take(api.Vow{}, at(1, 1), given(20))
	second, _ := Promise(first, at(2, 2))
	third, _ := Promise(second, at(2, 2))
	fourth, _ := Take(third, at(1, 1), given(40))
	list := []api.State{first.Taken, second.Taken, third.Taken, fourth.Taken, Best(first, second, third, fourth)}
	for i, s := range list {
		stateIs(t, fmt.Sprint("answer ", i), s, 20)
		blot(s.Chests, 100+i)
	}
	for i, s := range list {
		if !blotted(s.Chests, 100+i) {
			t.Errorf("answer %d shares its memory: %v", i, s.Chests[:cap(s.Chests)])
		}
	}
}

// Lists without anything, but with room, are not kept either.
func TestSpareRoomAlone(t *testing.T) {
	for _, w := range ways() {
		room, other := make([]int, 4), make([]int, 4)
		got := w.ask(vow(at(5, 5), at(4, 4), state(1, 1, 1, room[:0]...)), state(1, 1, 1, other[:0]...))
		blot(got.Chests, 77)
		if len(got.Chests) != 0 || !blotted(room, 0) || !blotted(other, 0) {
			t.Errorf("%s: spare room that was handed in is now %v, %v", w.name, room, other)
		}
	}
}

func TestBestList(t *testing.T) {
	list := []api.Vow{vow(at(5, 5), at(4, 4), given(20)), vow(at(5, 5), at(5, 5), given(40)), vow(at(9, 9), at(9, 9), given(60))}
	got := Best(list[:2]...)
	stateIs(t, "Best", got, 40)
	for i, v := range list {
		isGiven(t, v.Taken, 20*(i+1))
	}
	if list[0].At != at(4, 4) || list[1].At != at(5, 5) || list[2].At != at(9, 9) || list[2].Promised != at(9, 9) {
		t.Errorf("what was handed in is now %+v", list)
	}
	blot(list, api.Vow{})
	stateIs(t, "Best, behind", got, 40)
}

func TestEncodeMemory(t *testing.T) {
	own := given(20)
	v := vow(at(5, 5), at(4, 4), own)
	one, _ := Encode(v)
	two, _ := Encode(v)
	isGiven(t, own, 20)
	want := vowBytes(v)
	blot(own.Chests, 77)
	if string(one) != want || string(two) != want {
		t.Errorf("behind turning what was given: %x, %x", one, two)
	}
	blot(one, '!')
	if string(two) != want {
		t.Errorf("behind turning an answer: %x", two)
	}
	blot(two, '?')
	if !blotted(one, '!') {
		t.Error("two answers share their memory")
	}
	bad := vow(at(5, 5), at(6, 6), given(40))
	notTold(t, bad)
	isGiven(t, bad.Taken, 40)
}

func TestDecodeMemory(t *testing.T) {
	want := vow(at(5, 5), at(4, 4), deep(given(20)))
	for _, room := range []int{0, 1, 40} {
		b := append(make([]byte, 0, 100), vowBytes(want)...)
		clear(b[len(b):cap(b)])
		b = b[: len(b) : len(b)+room]
		one, _ := Decode(b)
		two, _ := Decode(b)
		if string(b) != vowBytes(want) || !blotted(b[len(b):cap(b)], 0) {
			t.Errorf("what was handed in is now %x", b[:cap(b)])
		}
		blot(b, 7)
		if !same(one, want) || !same(two, want) {
			t.Errorf("behind turning what was given: %+v, %+v", one, two)
		}
		blot(one.Taken.Chests, 77)
		if !same(two, want) {
			t.Errorf("behind turning an answer: %+v", two)
		}
		blot(two.Taken.Chests, 78)
		if !blotted(one.Taken.Chests, 77) || !blotted(b, 7) {
			t.Error("answers share their memory")
		}
	}
}

// The same calls answer the same, whatever was asked between them.
func TestAgain(t *testing.T) {
	for range 3 {
		for _, v := range vows() {
			sound(t, v, vowBytes(v))
			promise(t, v, v.Promised, deepVow(v), false)
			take(t, v, v.Promised, gen(3), vow(v.Promised, v.Promised, gen(3)), true)
			best(t, gen(3), vow(v.Promised, at(most, most), gen(3)), v)
			notRead(t, "\x80")
			notTold(t, vow(at(0, 0), at(0, 1), v.Taken))
		}
	}
}
