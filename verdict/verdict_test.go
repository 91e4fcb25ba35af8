package verdict

import (
	"fmt"
	"math"
	"math/rand/v2"
	"slices"
	"strings"
	"testing"

	"roundhouse/api"
	"roundhouse/change"
	"roundhouse/frame"
)

const (
	least = math.MinInt
	most  = math.MaxInt

	fine  = api.Fine
	clash = api.Clash
	late  = api.Late
)

// notVerdicts: numbers that are none.
func notVerdicts() []int { return []int{0, 4, -1, -2, -3, 5, 256, 1 << 32, least, least + 1, most} }

func long(n int) string { return strings.Repeat("k", n) }

func of(from, to string) api.Span { return api.Span{From: from, To: to} }

func put(key, value string) api.Change { return api.Change{Kind: api.Put, Key: key, Value: value} }

func clearOf(key string) api.Change { return api.Change{Kind: api.Clear, Key: key} }

func wipe(from, to string) api.Change { return api.Change{Kind: api.Wipe, Key: from, Value: to} }

func spans(list ...api.Span) []api.Span { return list }

func changes(list ...api.Change) []api.Change { return list }

func ints(list ...int) []int { return list }

// told: a value with all its bytes to be seen, but not too many of them.
func told(x any) string { return fmt.Sprintf("%+.400q", fmt.Sprint(x)) }

// halves: so many bytes as two texts of at most so many each, the first one not above the second.
func halves(n, first, second int) (string, string) {
	b := min(n, second)
	if n-b > first {
		panic("no such two texts")
	}
	return long(n - b), long(b)
}

// split: a number as the fewest that are from 8 to most each.
func split(n, most int) []int {
	var out []int
	for n > 0 {
		k := min(n, most)
		if rest := n - k; rest > 0 && rest < 8 {
			k -= 8 - rest
		}
		if k < 8 {
			panic("no such numbers")
		}
		out, n = append(out, k), n-k
	}
	return out
}

// reads: the fewest spans, none inverted, that weigh so much.
func reads(n int) []api.Span {
	var out []api.Span
	for _, k := range split(n, 42) {
		from, to := halves(k-8, 17, 17)
		out = append(out, of(from, to))
	}
	return out
}

// puts, clears, wipes: the fewest sound changes of one kind that weigh so much.
func puts(n int) []api.Change {
	var out []api.Change
	for _, k := range split(n, 88) {
		key, value := halves(k-8, 16, 64)
		out = append(out, put(key, value))
	}
	return out
}

func clears(n int) []api.Change {
	var out []api.Change
	for _, k := range split(n, 24) {
		out = append(out, clearOf(long(k-8)))
	}
	return out
}

func wipes(n int) []api.Change {
	var out []api.Change
	for _, k := range split(n, 42) {
		from, to := halves(k-8, 17, 17)
		out = append(out, wipe(from, to))
	}
	return out
}

// fault: a change that is not sound, and why.
type fault struct {
	c api.Change
	e api.Errno
}

func faults() []fault {
	var out []fault
	for _, kind := range []int{0, -1, 4, most, least} {
		out = append(out, fault{api.Change{Kind: kind}, api.ErrArg}, fault{api.Change{Kind: kind, Key: "b", Value: "a"}, api.ErrArg}, fault{api.Change{Kind: kind, Key: long(99)}, api.ErrArg})
	}
	for _, c := range changes(
		put(long(17), ""), put("a", long(65)), put(long(17), long(65)), clearOf(long(17)), api.Change{Kind: api.Clear, Key: "a", Value: "1"},
		wipe("a", long(18)), wipe(long(18), "z"), wipe("z"+long(17), "a"),
	) {
		out = append(out, fault{c, api.ErrLarge})
	}
	for _, c := range changes(wipe("b", "a"), wipe("a", ""), wipe("a\x00", "a"), wipe("\xff", "é"), wipe("z", long(17))) {
		out = append(out, fault{c, api.ErrRange})
	}
	return out
}

// What has to be

func both(t *testing.T, want []int, lists ...[]int) {
	t.Helper()
	if got, e := Both(lists...); !slices.Equal(got, want) || e != api.OK {
		t.Errorf("Both(%.300v): %v, %d, not %v", lists, got, e, want)
	}
}

func notBoth(t *testing.T, want api.Errno, lists ...[]int) {
	t.Helper()
	if got, e := Both(lists...); got != nil || e != want {
		t.Errorf("Both(%.300v): %v, %d, not %d", lists, got, e, want)
	}
}

func check(t *testing.T, x api.Txn, want api.Errno) {
	t.Helper()
	if e := Check(x); e != want {
		t.Errorf("Check(%s): %d, not %d", told(x), e, want)
	}
}

func picked(t *testing.T, want []api.Change, list []api.Txn, verdicts ...int) {
	t.Helper()
	if got, e := Pick(list, verdicts); !slices.Equal(got, want) || e != api.OK {
		t.Errorf("Pick(%s, %v): %s, %d, not %s", told(list), verdicts, told(got), e, told(want))
	}
}

func notPicked(t *testing.T, want api.Errno, list []api.Txn, verdicts ...int) {
	t.Helper()
	if got, e := Pick(list, verdicts); got != nil || e != want {
		t.Errorf("Pick(%s, %v): %s, %d, not %d", told(list), verdicts, told(got), e, want)
	}
}

// P14.1: Both

func TestBoth(t *testing.T) {
	both(t, ints(fine, clash, late, late), ints(1, 2, 1, 3), ints(1, 1, 3, 2))
	both(t, ints(late, clash, clash), ints(late, clash, fine), ints(fine, fine, clash))
	both(t, ints(late), ints(clash), ints(late), ints(clash))
	both(t, ints(late), ints(late), ints(clash))
	both(t, ints(clash), ints(fine), ints(clash), ints(fine))
	both(t, ints(fine), ints(fine), ints(fine), ints(fine), ints(fine))
	both(t, ints(fine, fine, late), ints(fine, fine, fine), ints(fine, fine, fine), ints(fine, fine, late))
	both(t, ints(late, fine, clash), ints(late, fine, fine), ints(fine, fine, fine), ints(fine, fine, clash))
}

func TestBothOfNoLists(t *testing.T) {
	notBoth(t, api.ErrArg)
	notBoth(t, api.ErrArg, [][]int{}...)
	notBoth(t, api.ErrArg, make([][]int, 0, 8)...)
}

func TestBothOfOne(t *testing.T) {
	for _, list := range [][]int{{fine}, {clash}, {late}, {fine, clash, late}, {late, late}, {clash, fine, fine, fine, late}, slices.Repeat(ints(clash, late, fine), 2000)} {
		both(t, list, list)
		both(t, list, list, list)
		both(t, list, list, list, list, list)
	}
}

func TestBothWithoutPlaces(t *testing.T) {
	for n := range 9 {
		if n == 0 {
			continue
		}
		both(t, nil, make([][]int, n)...)
		both(t, nil, slices.Repeat([][]int{{}}, n)...)
		both(t, nil, slices.Repeat([][]int{make([]int, 0, 5)}, n)...)
	}
	both(t, nil, nil, ints(), nil)
	both(t, nil, make([][]int, 5000)...)
}

func TestBothUnlike(t *testing.T) {
	lists := [][]int{nil, ints(), ints(fine), ints(clash, late), ints(fine, fine, fine), slices.Repeat(ints(late), 1000)}
	for _, a := range lists {
		for _, b := range lists {
			if len(a) == len(b) {
				continue
			}
			notBoth(t, api.ErrArg, a, b)
			notBoth(t, api.ErrArg, a, a, b)
			notBoth(t, api.ErrArg, a, b, a)
			notBoth(t, api.ErrArg, b, a, a)
			notBoth(t, api.ErrArg, a, a, a, a, a, b)
			notBoth(t, api.ErrArg, a, a, b, a, a, a)
		}
	}
}

// Unlike lengths go ahead of numbers that are no verdicts, wherever these stand.
func TestBothUnlikeAndNone(t *testing.T) {
	for _, n := range notVerdicts() {
		for _, lists := range [][][]int{
			{{n}, {}}, {{}, {n}}, {{n}, nil}, {nil, {n}}, {{n}, {fine, fine}}, {{fine, fine}, {n}}, {{n, fine}, {fine}}, {{fine, n}, {fine}}, {{fine}, {fine, n}}, {{fine}, {n, fine}},
			{{n}, {n}, {}}, {{}, {n}, {n}}, {{n}, {n}, {n, n}}, {{n}, {fine}, {fine, fine}}, {{fine}, {n}, {fine, fine}}, {{fine}, {fine}, {fine, n}}, {{n, n, n}, {n, n}, {n}},
		} {
			notBoth(t, api.ErrArg, lists...)
		}
	}
}

// A number that is no verdict at each place of each of some lists, beside each verdict.
func TestBothNone(t *testing.T) {
	for _, n := range notVerdicts() {
		for _, beside := range []int{fine, clash, late} {
			for many := 1; many <= 4; many++ {
				for length := 1; length <= 5; length++ {
					for which := range many {
						for place := range length {
							var lists [][]int
							for range many {
								lists = append(lists, slices.Repeat(ints(beside), length))
							}
							both(t, lists[0], lists...)
							lists[which][place] = n
							notBoth(t, api.ErrForm, lists...)
						}
					}
				}
			}
		}
	}
	notBoth(t, api.ErrForm, ints(0, 4, -1), ints(4, 0, 0))
	notBoth(t, api.ErrForm, ints(0, 0), ints(0, 0))
}

// bothPlain: for each place, is there a Late, else a Clash?
func bothPlain(lists ...[]int) []int {
	var out []int
	for i := range lists[0] {
		has := func(v int) bool { return slices.ContainsFunc(lists, func(list []int) bool { return list[i] == v }) }
		switch {
		case has(late):
			out = append(out, late)
		case has(clash):
			out = append(out, clash)
		default:
			out = append(out, fine)
		}
	}
	return out
}

// Each pair, each three and each four of verdicts, by themselves, and at each place of longer lists.
func TestBothAll(t *testing.T) {
	var all func(said []int)
	all = func(said []int) {
		if len(said) > 0 {
			for _, around := range []struct{ ahead, behind []int }{{}, {ints(fine), nil}, {nil, ints(late)}, {ints(late, clash), ints(clash, fine)}} {
				var lists [][]int
				for _, v := range said {
					lists = append(lists, slices.Concat(around.ahead, ints(v), around.behind))
				}
				both(t, bothPlain(lists...), lists...)
			}
		}
		if len(said) == 4 {
			return
		}
		for _, v := range []int{fine, clash, late} {
			all(append(slices.Clone(said), v))
		}
	}
	all(nil)
}

func TestBothPicked(t *testing.T) {
	pick := rand.New(rand.NewPCG(14, 1))
	for range 3000 {
		length := pick.IntN(40)
		var lists [][]int
		for range 1 + pick.IntN(12) {
			var list []int
			for range length {
				list = append(list, max(fine, pick.IntN(8)-4))
			}
			lists = append(lists, list)
		}
		both(t, bothPlain(lists...), lists...)
	}
}

// P14.2: Check

func TestCheck(t *testing.T) {
	for _, x := range []api.Txn{
		{}, {Read: 1}, {Read: most}, {Reads: spans(), Changes: changes()}, {Reads: spans(of("", ""))}, {Reads: spans(of("a", "a"))}, {Reads: spans(of("a", "b"), of("b", "c"))}, {Reads: spans(of("b", "c"), of("a", "z"), of("b", "c"))},
		{Changes: changes(put("", ""))}, {Changes: changes(put("a", "1"), clearOf("a"), wipe("a", "b"), wipe("b", "b"))},
		{Read: 1000, Reads: spans(of("a", "c"), of("", long(17))), Changes: changes(put(long(16), long(64)), clearOf(long(16)), wipe(long(17), long(17)), wipe("", "\xff"))},
	} {
		check(t, x, api.OK)
		for _, read := range []int{-1, -2, least} {
			x.Read = read
			check(t, x, api.ErrArg)
		}
	}
}

func TestCheckParts(t *testing.T) {
	for n := range 60 {
		want := api.OK
		if n > 24 {
			want = api.ErrLarge
		}
		for _, s := range spans(of("", ""), of("", "k"), of("k", "k")) {
			check(t, api.Txn{Reads: slices.Repeat(spans(s), n)}, want)
		}
		for _, c := range changes(clearOf(""), put("", ""), wipe("", ""), put("k", "v")) {
			check(t, api.Txn{Changes: slices.Repeat(changes(c), n)}, want)
		}
		check(t, api.Txn{Reads: make([]api.Span, n), Changes: slices.Repeat(changes(clearOf("")), n)}, want)
		check(t, api.Txn{Reads: make([]api.Span, n), Changes: slices.Repeat(changes(clearOf("")), 24)}, want)
		check(t, api.Txn{Reads: make([]api.Span, 24), Changes: slices.Repeat(changes(clearOf("")), n)}, want)
	}
	check(t, api.Txn{Reads: make([]api.Span, 100000)}, api.ErrLarge)
	check(t, api.Txn{Changes: make([]api.Change, 100000)}, api.ErrLarge)
}

// Ends of Reads of each length, at each place.
func TestCheckEnds(t *testing.T) {
	good := of("a", "b")
	for _, n := range []int{0, 1, 16, 17, 18, 19, 100, 1000, 100000} {
		want := api.OK
		if n > 17 {
			want = api.ErrLarge
		}
		for _, s := range spans(of("", long(n)), of(long(n), "z"), of(long(n), long(n))) {
			check(t, api.Txn{Reads: spans(s)}, want)
			check(t, api.Txn{Reads: spans(s, good, good)}, want)
			check(t, api.Txn{Reads: spans(good, s, good)}, want)
			check(t, api.Txn{Reads: spans(good, good, s)}, want)
			check(t, api.Txn{Reads: append(make([]api.Span, 6), s), Changes: changes(put("a", "1"))}, want)
		}
	}
	check(t, api.Txn{Reads: spans(of("", strings.Repeat("é", 8)+"a"))}, api.OK) // bytes are counted, not letters
	check(t, api.Txn{Reads: spans(of("", strings.Repeat("é", 9)))}, api.ErrLarge)
	check(t, api.Txn{Reads: spans(of("", strings.Repeat("\xff", 17)))}, api.OK)
	check(t, api.Txn{Reads: spans(of("", strings.Repeat("\x00", 18)))}, api.ErrLarge)
}

// weights: transactions that weigh so much, by Reads, by Changes and by both; of just n of their bytes each.
func weights(n int) []api.Txn {
	out := []api.Txn{{Reads: reads(n)}, {Changes: puts(n)}, {Changes: clears(n)}, {Changes: wipes(n)}}
	for r := 8; r <= n-8; r++ {
		out = append(out, api.Txn{Reads: reads(r), Changes: puts(n - r)}, api.Txn{Reads: reads(r), Changes: wipes(n - r)}, api.Txn{Read: r, Reads: reads(r), Changes: clears(n - r)})
	}
	return out
}

func TestCheckWeights(t *testing.T) {
	for _, n := range []int{8, 100, 480, 500, 503, 504, 505, 508, 509, 510, 511, 512} {
		for _, x := range weights(n) {
			check(t, x, api.OK)
		}
	}
	for _, n := range []int{513, 514, 515, 516, 517, 518, 519, 520, 521, 522, 527, 528} {
		for _, x := range weights(n) {
			check(t, x, api.ErrLarge)
		}
	}
}

// What just fits, with one byte, or one part, more, wherever that is.
func TestCheckOneMore(t *testing.T) {
	for _, n := range []int{512, 511, 505, 504, 503} {
		x := api.Txn{Read: 7, Reads: spans(of("", "a"), of("", ""), of("b", "c"), of("", "d")), Changes: changes(put("a", ""), clearOf("b"), wipe("c", "d"), put("", ""))}
		x.Changes = append(x.Changes, puts(n-(4*8+4)-(4*8+4))...)
		more := func(by int, turn func(x *api.Txn)) {
			t.Helper()
			y := api.Txn{Read: x.Read, Reads: slices.Clone(x.Reads), Changes: slices.Clone(x.Changes)}
			turn(&y)
			want := api.OK
			if n+by > 512 {
				want = api.ErrLarge
			}
			check(t, y, want)
		}
		more(0, func(x *api.Txn) {})
		for i := range x.Reads {
			more(1, func(x *api.Txn) { x.Reads[i].To += "x" })
		}
		more(1, func(x *api.Txn) { x.Reads[0].From += "\x00" })
		more(1, func(x *api.Txn) { x.Reads[2].From += "\x00" })
		more(1, func(x *api.Txn) { x.Reads[3].From += "\x00" })
		for i := range 4 {
			more(1, func(x *api.Txn) { x.Changes[i].Key += "\x00" })
		}
		for _, i := range []int{0, 2, 3} {
			more(1, func(x *api.Txn) { x.Changes[i].Value += "\x00" })
		}
		for i := range len(x.Reads) + 1 {
			more(8, func(x *api.Txn) { x.Reads = slices.Insert(x.Reads, i, of("", "")) })
			more(10, func(x *api.Txn) { x.Reads = slices.Insert(x.Reads, i, of("x", "y")) })
		}
		for i := range len(x.Changes) + 1 {
			more(8, func(x *api.Txn) { x.Changes = slices.Insert(x.Changes, i, put("", "")) })
			more(9, func(x *api.Txn) { x.Changes = slices.Insert(x.Changes, i, clearOf("x")) })
		}
		more(0, func(x *api.Txn) { x.Read = most }) // Read is no byte
	}
}

func TestCheckInverted(t *testing.T) {
	good := of("a", "b")
	for _, s := range spans(of("b", "a"), of("a", ""), of("a\x00", "a"), of("z", long(17)), of("\xff", "é"), of(long(17), long(16)), of("\x80", "\x7f")) {
		for _, x := range []api.Txn{
			{Reads: spans(s)}, {Read: most, Reads: spans(s, good, good)}, {Reads: spans(good, s, good)}, {Reads: spans(good, good, s)}, {Reads: spans(s, s)}, {Reads: append(make([]api.Span, 5), s), Changes: changes(put("a", "1"))},
		} {
			check(t, x, api.ErrRange)
			x.Read = -1
			check(t, x, api.ErrArg)
		}
		for _, large := range spans(of("", long(18)), of(long(18), "z"), of("z"+long(17), "a")) {
			check(t, api.Txn{Reads: spans(large, s)}, api.ErrLarge)
			check(t, api.Txn{Reads: spans(s, large)}, api.ErrLarge)
			check(t, api.Txn{Reads: spans(good, s, good, large, good)}, api.ErrLarge)
			check(t, api.Txn{Reads: spans(good, large, good, s, good)}, api.ErrLarge)
		}
		check(t, api.Txn{Reads: append(make([]api.Span, 23), s)}, api.ErrRange)
		check(t, api.Txn{Reads: append(make([]api.Span, 24), s)}, api.ErrLarge)
		check(t, api.Txn{Reads: append(spans(s), make([]api.Span, 24)...)}, api.ErrLarge)
		check(t, api.Txn{Reads: spans(s), Changes: slices.Repeat(changes(clearOf("")), 24)}, api.ErrRange)
		check(t, api.Txn{Reads: spans(s), Changes: slices.Repeat(changes(clearOf("")), 25)}, api.ErrLarge)
		weight := 8 + len(s.From) + len(s.To)
		check(t, api.Txn{Reads: spans(s), Changes: puts(512 - weight)}, api.ErrRange)
		check(t, api.Txn{Reads: spans(s), Changes: puts(513 - weight)}, api.ErrLarge)
		check(t, api.Txn{Reads: append(spans(s), reads(512-weight)...)}, api.ErrRange)
		check(t, api.Txn{Reads: append(spans(s), reads(513-weight)...)}, api.ErrLarge)
		check(t, api.Txn{Reads: append(reads(512-weight), s)}, api.ErrRange)
		check(t, api.Txn{Reads: append(reads(513-weight), s)}, api.ErrLarge)
	}
	check(t, api.Txn{Reads: spans(of("z"+long(17), "a"))}, api.ErrLarge) // both faults in one Read
	check(t, api.Txn{Reads: spans(of("b"+long(16), "a"+long(16)))}, api.ErrRange)
}

func TestCheckChanges(t *testing.T) {
	good, inverted := put("a", "1"), of("b", "a")
	for _, f := range faults() {
		if e := change.Check(f.c); e != f.e {
			t.Fatalf("change.Check(%s): %d", told(f.c), e)
		}
		for _, list := range [][]api.Change{{f.c}, {f.c, good, good}, {good, f.c, good}, {good, good, f.c}, {f.c, f.c}} {
			x := api.Txn{Read: 3, Changes: list}
			check(t, x, f.e)
			x.Reads = spans(of("a", "b"), of("b", "c"))
			check(t, x, f.e)
			x.Reads = spans(inverted)
			check(t, x, api.ErrRange)
			x.Reads = spans(of("a", "b"), inverted)
			check(t, x, api.ErrRange)
			x.Reads = spans(inverted, of("", long(18)))
			check(t, x, api.ErrLarge)
			x.Reads = make([]api.Span, 25)
			check(t, x, api.ErrLarge)
			x.Read = -1
			check(t, x, api.ErrArg)
			x.Reads = spans(inverted)
			check(t, x, api.ErrArg)
			x.Reads = nil
			check(t, x, api.ErrArg)
		}
		check(t, api.Txn{Changes: append(slices.Repeat(changes(clearOf("")), 23), f.c)}, f.e)
		check(t, api.Txn{Changes: append(slices.Repeat(changes(clearOf("")), 24), f.c)}, api.ErrLarge)
		check(t, api.Txn{Changes: append(changes(f.c), slices.Repeat(changes(clearOf("")), 24)...)}, api.ErrLarge)
		left := 512 - change.Weight(f.c)
		check(t, api.Txn{Changes: append(changes(f.c), puts(left)...)}, f.e)
		check(t, api.Txn{Changes: append(changes(f.c), puts(left+1)...)}, api.ErrLarge)
		check(t, api.Txn{Reads: reads(left), Changes: changes(f.c)}, f.e)
		check(t, api.Txn{Reads: reads(left + 1), Changes: changes(f.c)}, api.ErrLarge)
	}
	for _, f := range faults() {
		for _, g := range faults() {
			check(t, api.Txn{Changes: changes(f.c, g.c)}, f.e) // the first error, not the least
			check(t, api.Txn{Changes: changes(good, f.c, good, g.c)}, f.e)
		}
	}
}

// Changes that weigh too much are ErrLarge whatever else they are.
func TestCheckHeavyChange(t *testing.T) {
	for _, n := range []int{504, 505, 1000, 100000} {
		for _, kind := range []int{api.Put, api.Clear, api.Wipe, 0, 4, -1, least} {
			for _, c := range changes(api.Change{Kind: kind, Key: long(n)}, api.Change{Kind: kind, Value: long(n)}, api.Change{Kind: kind, Key: long(n - 1), Value: "z"}) {
				want := api.ErrLarge
				if n == 504 {
					want = change.Check(c)
				}
				check(t, api.Txn{Changes: changes(c)}, want)
				if n == 504 {
					want = api.ErrLarge
				}
				check(t, api.Txn{Reads: spans(of("b", "a")), Changes: changes(c)}, want)
				check(t, api.Txn{Read: -1, Changes: changes(c)}, api.ErrArg)
			}
		}
	}
}

// Every set of faults: the chapter's first one is answered.
func TestCheckTies(t *testing.T) {
	wrong := []struct {
		rank int // 0 to 2: as the chapter names them; 3: of changes
		e    api.Errno
		turn func(x *api.Txn)
	}{
		{3, api.ErrRange, func(x *api.Txn) { x.Changes = append(x.Changes, wipe("b", "a")) }},
		{3, api.ErrArg, func(x *api.Txn) { x.Changes = append(x.Changes, api.Change{Kind: 4}) }},
		{3, api.ErrLarge, func(x *api.Txn) { x.Changes = append(x.Changes, put(long(17), "")) }},
		{3, api.ErrArg, func(x *api.Txn) { x.Changes = append(x.Changes, api.Change{Kind: 0, Key: "a"}) }},
		{2, api.ErrRange, func(x *api.Txn) { x.Reads = append(x.Reads, of("b", "a"), of("a", "b")) }},
		{1, api.ErrLarge, func(x *api.Txn) { x.Reads = append(x.Reads, of("", long(18))) }},
		{1, api.ErrLarge, func(x *api.Txn) { x.Reads = append(x.Reads, of(long(18), "z")) }},
		{1, api.ErrLarge, func(x *api.Txn) { x.Reads = append(x.Reads, reads(500)...) }},
		{1, api.ErrLarge, func(x *api.Txn) { x.Reads = append(x.Reads, make([]api.Span, 25)...) }},
		{1, api.ErrLarge, func(x *api.Txn) { x.Changes = append(x.Changes, puts(500)...) }},
		{1, api.ErrLarge, func(x *api.Txn) { x.Changes = append(x.Changes, slices.Repeat(changes(clearOf("")), 25)...) }},
		{0, api.ErrArg, func(x *api.Txn) { x.Read = -1 }},
	}
	for set := range 1 << len(wrong) {
		x := api.Txn{Read: 5, Reads: spans(of("a", "b")), Changes: changes(put("a", "1"))}
		rank, want := 4, api.OK
		for i, w := range wrong {
			if set&(1<<i) == 0 {
				continue
			}
			w.turn(&x)
			if w.rank < rank {
				rank, want = w.rank, w.e
			}
		}
		check(t, x, want)
	}
}

// checkPlain: the chapter's words, one behind the other, with all bytes laid behind each other to be counted.
func checkPlain(x api.Txn) api.Errno {
	var bytes strings.Builder
	long, inverted := false, false
	for _, s := range x.Reads {
		bytes.WriteString(s.From + s.To + "8 bytes.")
		long = long || max(len(s.From), len(s.To)) > 17
		inverted = inverted || strings.Compare(s.From, s.To) > 0
	}
	var first api.Errno
	for _, c := range x.Changes {
		bytes.WriteString(c.Key + c.Value + "8 bytes.")
		if first == api.OK {
			first = change.Check(c)
		}
	}
	switch {
	case x.Read < 0:
		return api.ErrArg
	case long || len(x.Reads) > 24 || len(x.Changes) > 24 || bytes.Len() > 512:
		return api.ErrLarge
	case inverted:
		return api.ErrRange
	}
	return first
}

// some: a transaction that is picked, with few parts or many, now and then with a fault.
func some(pick *rand.Rand) api.Txn {
	text := func(longest int) string {
		n := pick.IntN(longest + 1)
		if pick.IntN(40) == 0 {
			n = longest + 1
		}
		if pick.IntN(3) == 0 {
			n = min(n, 2)
		}
		b := make([]byte, n)
		for i := range b {
			b[i] = byte(pick.IntN(256))
		}
		return string(b)
	}
	rising := func(a, b string) (string, string) {
		if a > b && pick.IntN(30) > 0 {
			a, b = b, a
		}
		return a, b
	}
	most := []int{2, 6, 13, 25}[pick.IntN(4)]
	x := api.Txn{Read: pick.IntN(50) - 1}
	for range pick.IntN(most + 1) {
		from, to := rising(text(17), text(17))
		x.Reads = append(x.Reads, of(from, to))
	}
	for range pick.IntN(most + 1) {
		from, to := rising(text(17), text(17))
		list := changes(put(text(16), text(64)), clearOf(text(16)), wipe(from, to), put(text(3), text(3)), clearOf(text(3)))
		c := list[pick.IntN(len(list))]
		if pick.IntN(60) == 0 {
			c.Kind = pick.IntN(6) - 1
		}
		x.Changes = append(x.Changes, c)
	}
	return x
}

func TestCheckPicked(t *testing.T) {
	pick := rand.New(rand.NewPCG(14, 2))
	seen := map[api.Errno]int{}
	for range 60000 {
		x := some(pick)
		want := checkPlain(x)
		check(t, x, want)
		if _, e := frame.PutTxn(x); want == api.OK && e != api.OK {
			t.Errorf("%s passes, but is not sound", told(x))
		}
		seen[want]++
	}
	for _, e := range []api.Errno{api.OK, api.ErrArg, api.ErrLarge, api.ErrRange} {
		if seen[e] < 1000 {
			t.Errorf("%d came only %d times", e, seen[e])
		}
	}
}

// P14.3: Pick

// txn: a transaction of changes alone.
func txn(list ...api.Change) api.Txn { return api.Txn{Changes: list} }

// three: some transactions, each with changes of its own.
func three() []api.Txn {
	return []api.Txn{
		{Read: 5, Reads: spans(of("a", "b")), Changes: changes(put("a", "1"), clearOf("b"))},
		txn(wipe("c", "d")),
		{Read: 7, Changes: changes(clearOf("b"), put("a", "2"), put("e", "3"))},
	}
}

func TestPick(t *testing.T) {
	x := three()
	one, two, last := x[0].Changes, x[1].Changes, x[2].Changes
	picked(t, slices.Concat(one, two, last), x, fine, fine, fine)
	picked(t, slices.Concat(two, last), x, clash, fine, fine)
	picked(t, slices.Concat(two, last), x, late, fine, fine)
	picked(t, slices.Concat(one, last), x, fine, clash, fine)
	picked(t, slices.Concat(one, last), x, fine, late, fine)
	picked(t, slices.Concat(one, two), x, fine, fine, clash)
	picked(t, slices.Concat(one, two), x, fine, fine, late)
	picked(t, one, x, fine, late, clash)
	picked(t, two, x, late, fine, clash)
	picked(t, last, x, clash, late, fine)
	picked(t, nil, x, clash, clash, clash)
	picked(t, nil, x, late, late, late)
	picked(t, nil, x, clash, late, clash)
	picked(t, nil, nil)
	picked(t, nil, []api.Txn{}, ints()...)
}

// One that is Fine and has no changes adds none; alike changes stay, each of them, in their order.
func TestPickWithoutChanges(t *testing.T) {
	empty, a, b := api.Txn{Read: 3, Reads: spans(of("a", "b"))}, txn(put("a", "1"), put("a", "1")), txn(put("a", "1"), clearOf("a"))
	picked(t, nil, []api.Txn{empty}, fine)
	picked(t, nil, []api.Txn{{}}, fine)
	picked(t, nil, []api.Txn{{}, empty, {Changes: changes()}}, fine, fine, fine)
	picked(t, nil, []api.Txn{empty, a, b}, fine, clash, late)
	picked(t, a.Changes, []api.Txn{empty, a, empty}, fine, fine, fine)
	picked(t, slices.Concat(a.Changes, b.Changes), []api.Txn{a, empty, b}, fine, fine, fine)
	picked(t, slices.Concat(b.Changes, a.Changes, b.Changes), []api.Txn{b, a, b}, fine, fine, fine)
}

func TestPickHowMany(t *testing.T) {
	for n := range 7 {
		list := slices.Repeat([]api.Txn{txn(put("a", "1"))}, n)
		for said := range 9 {
			for _, v := range []int{fine, clash, late} {
				verdicts := slices.Repeat(ints(v), said)
				switch {
				case said != n:
					notPicked(t, api.ErrArg, list, verdicts...)
				case v == fine:
					picked(t, slices.Repeat(changes(put("a", "1")), n), list, verdicts...)
				default:
					picked(t, nil, list, verdicts...)
				}
			}
		}
	}
	notPicked(t, api.ErrArg, nil, fine)
	notPicked(t, api.ErrArg, three())
	notPicked(t, api.ErrArg, make([]api.Txn, 5000), make([]int, 4999)...)
}

// That there are not as many goes ahead of what is no verdict, or not sound.
func TestPickHowManyFirst(t *testing.T) {
	bad := api.Txn{Read: -1}
	for _, n := range notVerdicts() {
		notPicked(t, api.ErrArg, nil, n)
		notPicked(t, api.ErrArg, three(), n)
		notPicked(t, api.ErrArg, three(), fine, fine, fine, n)
		notPicked(t, api.ErrArg, []api.Txn{bad}, n, n)
	}
	notPicked(t, api.ErrArg, []api.Txn{bad})
	notPicked(t, api.ErrArg, []api.Txn{bad}, fine, fine)
	notPicked(t, api.ErrArg, append(three(), bad), fine, fine, fine)
}

func TestPickNone(t *testing.T) {
	for _, n := range notVerdicts() {
		for place := range 3 {
			for _, v := range []int{fine, clash, late} {
				verdicts := ints(v, v, v)
				verdicts[place] = n
				notPicked(t, api.ErrForm, three(), verdicts...)
			}
		}
		notPicked(t, api.ErrForm, []api.Txn{{}}, n)
		notPicked(t, api.ErrForm, three(), n, n, n)
		notPicked(t, api.ErrForm, []api.Txn{{Read: -1}}, n)
	}
}

// badTxns: transactions that are not sound.
func badTxns() []api.Txn {
	out := []api.Txn{
		{Read: -1}, {Read: least}, {Read: -1, Changes: changes(put("a", "1"))}, {Reads: make([]api.Span, 25)}, {Reads: make([]api.Span, 1000)},
		txn(slices.Repeat(changes(put("a", "1")), 25)...), {Reads: make([]api.Span, 25), Changes: slices.Repeat(changes(clearOf("a")), 25)},
	}
	good := spans(of("a", "h"), of("c", "c"))
	for _, s := range spans(of("b", "a"), of("a", ""), of("a\x00", "a"), of("", long(18)), of(long(18), "z"), of("z"+long(17), "a")) {
		out = append(out, api.Txn{Reads: spans(s)}, api.Txn{Reads: append(slices.Clone(good), s), Changes: changes(put("a", "1"))}, api.Txn{Reads: append(spans(s), good...)})
	}
	for _, f := range faults() {
		out = append(out, txn(f.c), txn(f.c, put("a", "1")), api.Txn{Read: 5, Reads: good, Changes: changes(put("a", "1"), wipe("b", "c"), f.c)})
	}
	return out
}

// One that is not sound, at each place, whatever is said of it and of the others.
func TestPickNotSound(t *testing.T) {
	for _, bad := range badTxns() {
		if _, e := frame.PutTxn(bad); e != api.ErrForm {
			t.Fatalf("%s is sound", told(bad))
		}
		for _, v := range []int{fine, clash, late} {
			notPicked(t, api.ErrForm, []api.Txn{bad}, v)
			for _, others := range []int{fine, clash, late} {
				for place := range 4 {
					list := slices.Insert(three(), place, bad)
					notPicked(t, api.ErrForm, list, slices.Insert(ints(others, others, others), place, v)...)
				}
			}
		}
	}
}

// What is sound is picked, also where Check finds it too large.
func TestPickLarge(t *testing.T) {
	large := api.Txn{Read: most, Reads: slices.Repeat(spans(of(long(17), long(17))), 24), Changes: slices.Repeat(changes(put(long(16), long(64))), 24)}
	check(t, large, api.ErrLarge)
	picked(t, large.Changes, []api.Txn{large}, fine)
	picked(t, nil, []api.Txn{large}, clash)
	picked(t, slices.Concat(large.Changes, large.Changes), []api.Txn{large, large, large}, fine, late, fine)
}

func TestPickPicked(t *testing.T) {
	pick := rand.New(rand.NewPCG(14, 3))
	wrong := 0
	for range 4000 {
		var list []api.Txn
		var verdicts []int
		var want []api.Change
		e := api.OK
		for range pick.IntN(10) {
			x := some(pick)
			if pick.IntN(8) > 0 {
				x = api.Txn{Read: pick.Int(), Reads: reads(8 * pick.IntN(9)), Changes: puts(8 * pick.IntN(30))}
			}
			v := 1 + pick.IntN(3)
			if pick.IntN(50) == 0 {
				v = 4 * pick.IntN(2)
			}
			if _, f := frame.PutTxn(x); f != api.OK || v == 0 || v == 4 {
				e = api.ErrForm
			}
			if v == fine {
				want = append(want, x.Changes...)
			}
			list, verdicts = append(list, x), append(verdicts, v)
		}
		if e == api.OK {
			picked(t, want, list, verdicts...)
			continue
		}
		notPicked(t, e, list, verdicts...)
		wrong++
	}
	if wrong < 500 || wrong > 3500 {
		t.Errorf("%d of 4000 were wrong", wrong)
	}
}

// P14.3: Fill

func TestFill(t *testing.T) {
	for n := range 70 {
		want := n
		if n > 4 {
			want = 4
		}
		for _, x := range []api.Txn{{}, three()[0], {Read: -1}, txn(puts(513)...)} {
			if got := Fill(slices.Repeat([]api.Txn{x}, n)); got != want {
				t.Errorf("Fill of %d: %d", n, got)
			}
		}
	}
	for _, c := range []struct {
		list []api.Txn
		want int
	}{
		{nil, 0}, {[]api.Txn{}, 0}, {make([]api.Txn, 0, 9), 0}, {make([]api.Txn, 3, 9), 3}, {make([]api.Txn, 4, 9), 4}, {make([]api.Txn, 5), 4}, {make([]api.Txn, 100000), 4},
	} {
		if got := Fill(c.list); got != c.want {
			t.Errorf("Fill of %d: %d, not %d", len(c.list), got, c.want)
		}
	}
}

// Memory

// roomy: a list with spare room, of which all is marked.
func roomy[T any](mark T, list ...T) []T {
	out := make([]T, 0, len(list)+8)
	out = append(out, list...)
	for i := len(list); i < cap(out); i++ {
		out = append(out, mark)
	}
	return out[:len(list)]
}

// whole: a list with its spare room.
func whole[T any](list []T) []T { return list[:cap(list)] }

// turn: each place of a list, and of its spare room, has another value.
func turn[T any](list []T, mark T) {
	for i := range whole(list) {
		whole(list)[i] = mark
	}
}

func TestBothMemory(t *testing.T) {
	for _, said := range [][]int{{}, {fine}, {late, clash, fine}, {fine, fine, fine, fine, late}} {
		for many := 1; many <= 3; many++ {
			var given [][]int
			for range many {
				given = append(given, roomy(77, said...))
			}
			lists := roomy(ints(5), given...)
			first, e := Both(lists...)
			second, f := Both(lists...)
			if e != api.OK || f != api.OK || !slices.Equal(first, said) || !slices.Equal(second, said) {
				t.Fatalf("Both(%v): %v, %d; %v, %d", lists, first, e, second, f)
			}
			for i, list := range whole(lists) {
				want := ints(5)
				if i < many {
					want = whole(roomy(77, said...))
				}
				if !slices.Equal(whole(list), want) {
					t.Errorf("Both(%v) has changed what was given: %v", said, whole(list))
				}
			}
			turn(first, 99) // by who has it
			for i, list := range given {
				if !slices.Equal(whole(list), whole(roomy(77, said...))) {
					t.Errorf("Both(%v) shares its answer with list %d", said, i)
				}
			}
			for _, list := range given { // by who gave it
				turn(list, 88)
			}
			if !slices.Equal(second, said) {
				t.Errorf("Both(%v) shares its answer: %v", said, second)
			}
			for _, n := range whole(second) {
				if n >= 77 {
					t.Errorf("Both(%v) shares its answer's spare room: %v", said, whole(second))
				}
			}
		}
	}
}

// A list that is wrong is not changed, either.
func TestBothMemoryWrong(t *testing.T) {
	for _, lists := range [][][]int{{{fine, late}, {clash, 4}}, {{0, late}, {clash, fine}}, {{late, late}, {clash}}} {
		var given [][]int
		for _, list := range lists {
			given = append(given, roomy(77, list...))
		}
		if got, e := Both(given...); got != nil || e == api.OK {
			t.Errorf("Both(%v): %v, %d", lists, got, e)
		}
		for i, list := range lists {
			if !slices.Equal(whole(given[i]), whole(roomy(77, list...))) {
				t.Errorf("Both(%v) has changed list %d: %v", lists, i, whole(given[i]))
			}
		}
	}
}

// given: a transaction whose lists have spare room.
func given(x api.Txn) api.Txn {
	return api.Txn{Read: x.Read, Reads: roomy(of("spare", "room"), x.Reads...), Changes: roomy(put("spare", "room"), x.Changes...)}
}

func sameWhole(a, b api.Txn) bool {
	return a.Read == b.Read && slices.Equal(whole(a.Reads), whole(b.Reads)) && slices.Equal(whole(a.Changes), whole(b.Changes))
}

func TestPickMemory(t *testing.T) {
	for _, said := range [][]int{{fine, fine, fine}, {fine, clash, late}, {late, fine, clash}, {clash, late, fine}, {clash, clash, late}, {fine, fine, 4}, {fine, fine}} {
		var list []api.Txn
		for _, x := range three() {
			list = append(list, given(x))
		}
		list = roomy(api.Txn{Read: 77}, list...)
		verdicts := roomy(77, said...)
		kept := func(what string) {
			t.Helper()
			for i, x := range three() {
				if !sameWhole(list[i], given(x)) {
					t.Errorf("Pick(.., %v) %s: %s", said, what, told(list[i]))
				}
			}
			for _, x := range whole(list)[len(list):] {
				if x.Read != 77 || x.Reads != nil || x.Changes != nil {
					t.Errorf("Pick(.., %v) %s: spare room", said, what)
				}
			}
			if !slices.Equal(whole(verdicts), whole(roomy(77, said...))) {
				t.Errorf("Pick(.., %v) %s: %v", said, what, whole(verdicts))
			}
		}
		first, _ := Pick(list, verdicts)
		second, _ := Pick(list, verdicts)
		before := slices.Clone(second)
		kept("has changed what was given")
		turn(first, put("x", "y")) // by who has it
		kept("shares its answer")
		for _, x := range list { // by who gave it
			turn(x.Changes, put("turned", ""))
			turn(x.Reads, of("turned", "turned"))
		}
		turn(list, api.Txn{Read: 88})
		if !slices.Equal(second, before) {
			t.Errorf("Pick(.., %v) shares its answer: %s", said, told(second))
		}
		for _, c := range whole(second) {
			if c.Key == "x" || c.Key == "turned" || c.Key == "spare" {
				t.Errorf("Pick(.., %v) shares its answer's spare room: %s", said, told(whole(second)))
			}
		}
	}
}

func TestCheckAndFillMemory(t *testing.T) {
	list := append(badTxns(), three()...)
	for _, n := range []int{511, 512, 513} {
		list = append(list, api.Txn{Reads: reads(n)}, txn(puts(n)...))
	}
	for _, x := range list {
		y := given(x)
		if a, b := Check(y), Check(x); a != b || !sameWhole(y, given(x)) {
			t.Errorf("Check(%s): %d, then %d, %s", told(x), a, b, told(y))
		}
		all := roomy(api.Txn{Read: 77}, y, y, y, y, y)
		if n := Fill(all); n != 4 || !sameWhole(y, given(x)) || !sameWhole(all[4], y) || whole(all)[5].Read != 77 {
			t.Errorf("Fill: %d, %s", n, told(y))
		}
	}
}

// Verdicts as referees give them of pieces, put together and picked.
func TestTogether(t *testing.T) {
	x := three()
	for _, c := range []struct {
		a, b []int
		want []api.Change
	}{
		{ints(fine, fine, fine), ints(fine, fine, fine), slices.Concat(x[0].Changes, x[1].Changes, x[2].Changes)},
		{ints(fine, clash, fine), ints(fine, fine, late), x[0].Changes},
		{ints(late, clash, fine), ints(clash, late, fine), x[2].Changes},
		{ints(late, fine, clash), ints(fine, clash, fine), nil},
	} {
		verdicts, e := Both(c.a, c.b)
		if e != api.OK {
			t.Fatalf("Both(%v, %v): %d", c.a, c.b, e)
		}
		picked(t, c.want, x, verdicts...)
	}
}
