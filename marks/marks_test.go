package marks

import (
	"fmt"
	"math"
	"math/rand/v2"
	"slices"
	"strings"
	"testing"

	"roundhouse/api"
	"roundhouse/change"
	"roundhouse/frame"
)

func put(key, value string) api.Change { return api.Change{Kind: api.Put, Key: key, Value: value} }

func clearOf(key string) api.Change { return api.Change{Kind: api.Clear, Key: key} }

func wipe(from, to string) api.Change { return api.Change{Kind: api.Wipe, Key: from, Value: to} }

func of(from, to string) api.Span { return api.Span{From: from, To: to} }

// single: the span of one key alone.
func single(key string) api.Span { return of(key, key+"\x00") }

// long: so many bytes.
func long(n int) string { return strings.Repeat("k", n) }

// top: the greatest end that a span of a transaction may have.
func top() string { return strings.Repeat("\xff", api.MaxKey+1) }

// all: the span of all keys that a transaction can write.
func all() api.Span { return of("", top()) }

// writes: a transaction that reads nothing.
func writes(list ...api.Change) api.Txn { return api.Txn{Changes: list} }

// reads: a transaction that changes nothing.
func reads(read int, list ...api.Span) api.Txn { return api.Txn{Read: read, Reads: list} }

// both: one that reads a span at a version, and does these changes.
func both(read int, s api.Span, list ...api.Change) api.Txn {
	return api.Txn{Read: read, Reads: []api.Span{s}, Changes: list}
}

func txns(list ...api.Txn) []api.Txn { return list }

// either: the one, if it is so, else the other.
func either(so bool, one, other int) int {
	if so {
		return one
	}
	return other
}

// judged: these are the verdicts.
func judged(t *testing.T, m *Marks, version int, list []api.Txn, want ...int) {
	t.Helper()
	if l, e := m.Judge(version, list...); !slices.Equal(l, want) || e != api.OK {
		t.Errorf("Judge(%d, %v): %v, %d, not %v", version, list, l, e, want)
	}
}

// refused: so is Judge's error.
func refused(t *testing.T, m *Marks, version int, want api.Errno, list ...api.Txn) {
	t.Helper()
	if l, e := m.Judge(version, list...); l != nil || e != want {
		t.Errorf("Judge(%d, %.300s): %v, %d, not %d", version, fmt.Sprint(list), l, e, want)
	}
}

// wrote: these changes are Fine.
func wrote(t *testing.T, m *Marks, version int, list ...api.Change) {
	t.Helper()
	judged(t, m, version, txns(writes(list...)), api.Fine)
}

// last: so is Last; 0: none is known.
func last(t *testing.T, m *Marks, s api.Span, want int) {
	t.Helper()
	for range 2 { // to ask changes nothing
		if n, ok := m.Last(s); n != want || ok != (want != 0) {
			t.Errorf("Last(%q): %d, %v, not %d", s, n, ok, want)
		}
	}
}

func size(t *testing.T, m *Marks, want int) {
	t.Helper()
	for range 2 {
		if n := m.Size(); n != want {
			t.Errorf("Size: %d, not %d", n, want)
		}
	}
}

func forget(t *testing.T, m *Marks, version int, want api.Errno) {
	t.Helper()
	if e := m.Forget(version); e != want {
		t.Errorf("Forget(%d): %d, not %d", version, e, want)
	}
}

// floorIs: what tells the floor; where something was written, Judge can be asked only above that.
func floorIs(t *testing.T, m *Marks, floor, newest int) {
	t.Helper()
	for _, version := range []int{math.MinInt, -1, floor - 1} {
		if version < floor {
			forget(t, m, version, api.ErrOld)
		}
	}
	forget(t, m, floor, api.OK)
	for _, version := range []int{math.MinInt, -1, 0, floor - 1, floor, newest - 1, newest} {
		if version <= newest {
			refused(t, m, version, api.ErrOrder)
			refused(t, m, version, api.ErrOrder, writes(put("q", "!")))
		}
	}
	if newest == math.MaxInt {
		return
	}
	judged(t, m, newest+1, nil)
	judged(t, m, newest+1, txns(reads(floor, of("~", "~~"))), api.Fine)
	if floor > 0 {
		judged(t, m, newest+1, txns(reads(floor-1, of("~", "~~"))), api.Late)
		judged(t, m, newest+1, txns(reads(0, of("~", "~~"))), api.Late)
	}
}

// grown: one with floor 10, that was written at 20, 30 and 40.
func grown(t *testing.T) *Marks {
	t.Helper()
	m := New(10)
	wrote(t, m, 20, wipe("b", "m"), put("x", "1"))
	wrote(t, m, 30, wipe("d", "f"), clearOf("x\x00"))
	wrote(t, m, 40, put("e", ""), wipe("p", "q"))
	return m
}

// pieces: the spans of grown, and when each was written last.
func pieces() []mark {
	return []mark{
		{of("b", "d"), 20}, {of("d", "e"), 30}, {single("e"), 40}, {of("e\x00", "f"), 30}, {of("f", "m"), 20},
		{of("p", "q"), 40}, {single("x"), 20}, {single("x\x00"), 30},
	}
}

// isGrown: is it as grown is, with that floor?
func isGrown(t *testing.T, m *Marks, floor int) {
	t.Helper()
	n := 0
	for _, x := range pieces() {
		if x.version > floor {
			n++
			last(t, m, x.Span, x.version)
		} else {
			last(t, m, x.Span, 0)
		}
	}
	size(t, m, n)
	for _, s := range []api.Span{of("", "b"), of("m", "p"), of("q", "x"), of("x\x00\x00", top())} {
		last(t, m, s, 0)
	}
	floorIs(t, m, floor, max(floor, 40))
}

// P11.1

func TestNew(t *testing.T) {
	for _, version := range []int{math.MinInt, math.MinInt + 1, -1000, -1, 0, 1, 2, 10, api.Window, api.Last, math.MaxInt - 1, math.MaxInt} {
		m := New(version)
		if m == nil {
			t.Fatalf("New(%d): nil", version)
		}
		floor := max(version, 0)
		for _, s := range []api.Span{all(), of("", ""), of("a", "b"), of("b", "a"), of("", long(1000)), single("")} {
			last(t, m, s, 0)
		}
		size(t, m, 0)
		floorIs(t, m, floor, floor)
		if floor == math.MaxInt {
			continue
		}
		judged(t, m, floor+1, txns(both(floor, all(), put("a", "1"))), api.Fine)
		last(t, m, all(), floor+1)
		last(t, m, single("a"), floor+1)
		size(t, m, 1)
		floorIs(t, m, floor, floor+1)
	}
}

func TestNil(t *testing.T) {
	var m *Marks
	for _, version := range []int{math.MinInt, -1, 0, 1, math.MaxInt} {
		refused(t, m, version, api.ErrArg)
		refused(t, m, version, api.ErrArg, writes(put("a", "1")))
		refused(t, m, version, api.ErrArg, reads(-1))
		refused(t, m, version, api.ErrArg, make([]api.Txn, api.MaxBatch+1)...)
		forget(t, m, version, api.ErrArg)
	}
	for _, s := range []api.Span{all(), of("", ""), of("a", "b"), of("b", "a")} {
		last(t, m, s, 0)
	}
	size(t, m, 0)
}

// One that New did not make is like one that New made at 0.
func TestWithoutNew(t *testing.T) {
	m := new(Marks)
	last(t, m, all(), 0)
	size(t, m, 0)
	floorIs(t, m, 0, 0)
	judged(t, m, 1, txns(both(0, all(), put("a", "1"))), api.Fine)
	last(t, m, all(), 1)
	size(t, m, 1)
}

// What is done to the one is not done to the other.
func TestTwo(t *testing.T) {
	one, two := New(10), New(10)
	wrote(t, one, 20, put("a", "1"))
	last(t, two, all(), 0)
	wrote(t, two, 30, wipe("a", "c"))
	forget(t, two, 15, api.OK)
	last(t, one, all(), 20)
	floorIs(t, one, 10, 20)
	floorIs(t, two, 15, 30)
}

func TestGrown(t *testing.T) { isGrown(t, grown(t), 10) }

func TestLast(t *testing.T) {
	m := grown(t)
	far := strings.Repeat("\xff", 1000)
	for _, c := range []struct {
		s    api.Span
		want int
	}{
		{of("", ""), 0},
		{of("b", "b"), 0},
		{of("e", "e"), 0},
		{of("e\x00", "e\x00"), 0},
		{of("m", "b"), 0}, // inverted, over what was written
		{of("x", ""), 0},
		{of(far, ""), 0},
		{of("e\x00", "e"), 0},
		{single("a"), 0},
		{of("a", "b"), 0}, // up to what was written
		{of("", "b"), 0},
		{of("a", "b\x00"), 20},
		{single("b"), 20},
		{of("b", "d"), 20},
		{of("b", "d\x00"), 30},
		{of("c", "d"), 20},
		{single("c"), 20},
		{single("c" + long(1000)), 20}, // no change can name it alone, but a Wipe has it
		{of("c"+long(1000), "d"+long(1000)), 30},
		{single("d"), 30},
		{of("d", "e"), 30},
		{of("d", "e\x00"), 40},
		{single("e"), 40},
		{of("e\x00", "f"), 30},
		{single("e\x00"), 30},
		{of("e\x00", "q"), 40},
		{single("f"), 20},
		{of("f", "m"), 20},
		{of("l", "p"), 20},
		{of("m", "p"), 0}, // from where what was written ends, to where it begins again
		{of("m", "p\x00"), 40},
		{of("m"+long(1000), "p"), 0},
		{of("p", "q"), 40},
		{single("q"), 0},
		{of("p"+long(50), "x"), 40},
		{of("q", "x"), 0},
		{of("q", "x\x00"), 20},
		{single("x"), 20},
		{single("x\x00"), 30},
		{of("x", "x\x00\x00"), 30},
		{of("x\x00\x00", far), 0},
		{of("x", far), 30},
		{of("a", "z"), 40},
		{of("b", "e"), 30},
		{of("f", "n"), 20},
		{all(), 40},
		{of("", far), 40},
		{of("", "\x00"), 0},
	} {
		last(t, m, c.s, c.want)
	}
	isGrown(t, m, 10)
}

// The greatest version of a span stands at its beginning, in its middle and at its end.
func TestLastGreatest(t *testing.T) {
	keys := []string{"a", "b", "c", "d"}
	for i, top := range keys {
		m := New(0)
		for at, key := range keys {
			if at != i {
				wrote(t, m, 10+at, put(key, ""))
			}
		}
		wrote(t, m, 20, put(top, ""))
		last(t, m, of("a", "e"), 20)
		last(t, m, all(), 20)
		size(t, m, 4)
		for from := range keys {
			for to := from; to < len(keys); to++ {
				want := 0
				for at := from; at <= to; at++ {
					want = max(want, either(at == i, 20, 10+at))
				}
				last(t, m, of(keys[from], keys[to]+"\x00"), want)
			}
		}
	}
}

// P11.2

func TestVersions(t *testing.T) {
	for _, floor := range []int{0, 1, 7, 1 << 40, api.Last, math.MaxInt - 2, math.MaxInt - 1, math.MaxInt} {
		for _, version := range []int{math.MinInt, math.MinInt + 1, -1, 0, floor - 7, floor - 1, floor} {
			m := New(floor)
			refused(t, m, version, api.ErrOrder)
			refused(t, m, version, api.ErrOrder, writes(put("a", "1")))
			last(t, m, all(), 0)
			floorIs(t, m, floor, floor)
		}
		for _, version := range []int{floor + 1, floor + 2, floor + 1000, 1 << 50, math.MaxInt - 1, math.MaxInt} {
			if version <= floor { // wrapped round, or not above
				continue
			}
			m := New(floor)
			wrote(t, m, version, put("a", "1"))
			last(t, m, all(), version)
			floorIs(t, m, floor, version)
		}
	}
}

// Above the floor only a version at which a key was written is asked about.
func TestVersionsWritten(t *testing.T) {
	m := grown(t)
	for _, version := range []int{math.MinInt, -1, 0, 9, 10, 11, 19, 20, 21, 30, 39, 40} {
		refused(t, m, version, api.ErrOrder)
		refused(t, m, version, api.ErrOrder, writes(put("a", "1")), reads(0, all()))
	}
	isGrown(t, m, 10)
	for _, list := range [][]api.Txn{
		nil,
		{{}},
		{reads(40, all())},
		{reads(39, all())},
		{reads(9, all())},
		{writes(wipe("b", "b"))},
		{writes(wipe("", ""), wipe(top(), top()))},
		{both(39, all(), put("q", "!"))}, // refused: nothing is written
		{both(9, all(), put("q", "!"))},
	} {
		for _, version := range []int{1 << 50, 50, 41, 60, 50} {
			if l, e := m.Judge(version, list...); len(l) != len(list) || e != api.OK {
				t.Errorf("Judge(%d, %v): %v, %d", version, list, l, e)
			}
		}
		isGrown(t, m, 10)
	}
	wrote(t, m, 41, put("q", "1"))
	refused(t, m, 41, api.ErrOrder)
	refused(t, m, 40, api.ErrOrder)
	wrote(t, m, 1<<50, put("q", "1"))
	refused(t, m, 1<<50, api.ErrOrder)
	refused(t, m, 1000, api.ErrOrder)
	floorIs(t, m, 10, 1<<50)
}

// A version that was written counts, too, where the keys stand ahead of elder ones, or behind them.
func TestVersionsWrittenAnywhere(t *testing.T) {
	for _, keys := range [][]string{{"a", "b", "c"}, {"c", "b", "a"}, {"b", "a", "c"}, {"b", "c", "a"}, {"a", "c", "b"}, {"c", "a", "b"}, {"a", "a", "a"}} {
		m := New(0)
		for i, key := range keys {
			wrote(t, m, 10+10*i, put(key, ""))
			floorIs(t, m, 0, 10+10*i)
		}
	}
}

// unsound: transactions that are not.
func unsound() []api.Txn {
	var out []api.Txn
	for _, read := range []int{-1, -2, math.MinInt} {
		out = append(out, api.Txn{Read: read}, reads(read, all()), both(read, all(), put("a", "1")))
	}
	out = append(out, reads(50, make([]api.Span, api.MaxParts+1)...), writes(slices.Repeat([]api.Change{put("a", "1")}, api.MaxParts+1)...))
	for _, s := range []api.Span{
		of("b", "a"), of("a\x00", "a"), of("a", ""),
		of("", long(api.MaxKey+2)), of(long(api.MaxKey+2), "z"), of(long(api.MaxKey+2), long(api.MaxKey+2)), of(long(1000), "z"),
	} {
		out = append(out, reads(50, s), reads(50, all(), s), reads(50, s, all()))
	}
	for _, c := range []api.Change{
		{}, {Kind: -1}, {Kind: 4, Key: "a"}, {Kind: math.MaxInt}, {Kind: math.MinInt},
		put(long(api.MaxKey+1), ""), put("a", long(api.MaxValue+1)), clearOf(long(api.MaxKey + 1)), {Kind: api.Clear, Key: "a", Value: "1"},
		wipe("b", "a"), wipe("a", ""), wipe("a", long(api.MaxKey+2)), wipe(long(api.MaxKey+2), "z"),
	} {
		out = append(out, writes(c), writes(put("a", "1"), c), writes(c, put("a", "1")), both(50, all(), c))
	}
	return out
}

// A list with one that is not sound does nothing, wherever that stands.
func TestUnsound(t *testing.T) {
	m := grown(t)
	good := writes(wipe("a", "z"))
	for _, bad := range unsound() {
		if _, e := frame.PutTxn(bad); e != api.ErrForm {
			t.Fatalf("PutTxn(%v): %d", bad, e)
		}
		for _, list := range [][]api.Txn{{bad}, {bad, good}, {good, bad}, {good, bad, good}, {good, good, good, bad}, {bad, good, good, good}, {good, good, bad, good}, {bad, bad, bad, bad}} {
			refused(t, m, 41, api.ErrForm, list...)
		}
		refused(t, m, math.MaxInt, api.ErrForm, bad)
	}
	isGrown(t, m, 10)
}

// The greatest ones that are sound still are.
func TestSoundEnds(t *testing.T) {
	m := New(10)
	far := strings.Repeat("\xff", api.MaxKey)
	var single, spans []api.Change
	for i := range api.MaxParts {
		single = append(single, put(fmt.Sprintf("%015d%d", i, i%10), long(api.MaxValue)))
		spans = append(spans, wipe(fmt.Sprintf("%017d", 10*i), fmt.Sprintf("%017d", 10*i+5)))
	}
	judged(t, m, 20, txns(
		api.Txn{Read: math.MaxInt, Reads: slices.Repeat([]api.Span{all()}, api.MaxParts), Changes: single},
		api.Txn{Read: 10, Reads: slices.Repeat([]api.Span{of(top(), top())}, api.MaxParts), Changes: []api.Change{wipe(top(), top()), clearOf(far), put("", "")}},
	), api.Fine, api.Fine)
	size(t, m, api.MaxParts+2)
	last(t, m, of(far, top()), 20)
	last(t, m, of("", "\x00"), 20)
	judged(t, m, 21, txns(writes(wipe("", top())), writes(spans...)), api.Fine, api.Fine)
	size(t, m, 1)
	judged(t, m, 22, txns(writes(spans...)), api.Fine)
	size(t, m, 2*api.MaxParts+1)
}

func TestHowMany(t *testing.T) {
	for n := range api.MaxBatch + 4 {
		m := grown(t)
		list := make([]api.Txn, n)
		var want []int
		for i := range list {
			list[i] = writes(put(fmt.Sprint(i), ""))
			want = append(want, api.Fine)
		}
		if n > api.MaxBatch {
			refused(t, m, 41, api.ErrForm, list...)
			refused(t, m, 41, api.ErrForm, make([]api.Txn, n)...)
			isGrown(t, m, 10)
			continue
		}
		judged(t, m, 41, list, want...)
		size(t, m, 8+n)
	}
	refused(t, New(0), 1, api.ErrForm, make([]api.Txn, 1000)...)
	for _, list := range [][]api.Txn{nil, {}} { // no transactions: nil or not
		judged(t, New(0), 1, list)
	}
}

// Of errors that both apply the first one is told.
func TestTies(t *testing.T) {
	bad := writes(wipe("b", "a"))
	many := make([]api.Txn, api.MaxBatch+1)
	for _, version := range []int{math.MinInt, -1, 0, 9, 10, 11, 20, 39, 40} {
		m := grown(t)
		refused(t, m, version, api.ErrOrder, bad)
		refused(t, m, version, api.ErrOrder, many...)
		refused(t, m, version, api.ErrOrder, slices.Repeat(txns(bad), api.MaxBatch+1)...)
		isGrown(t, m, 10)
		refused(t, nil, version, api.ErrArg, bad)
		refused(t, nil, version, api.ErrArg, many...)
	}
	refused(t, nil, 41, api.ErrArg, bad)
	refused(t, grown(t), 41, api.ErrForm, slices.Repeat(txns(bad), api.MaxBatch+1)...)
	forget(t, nil, -1, api.ErrArg)
}

func TestLate(t *testing.T) {
	for _, floor := range []int{0, 1, 2, 10, 1 << 40, math.MaxInt - 1} {
		m := New(floor)
		for _, read := range []int{0, floor / 2, floor - 1, floor, floor + 1, math.MaxInt} {
			if read < 0 {
				continue // it is not sound
			}
			for _, list := range [][]api.Span{nil, {}} { // who reads nothing is never late
				judged(t, m, floor+1, txns(reads(read, list...)), api.Fine)
			}
			for _, list := range [][]api.Span{{all()}, {single("a")}, {of("b", "c"), of("x", "y")}, {{}}, {of("b", "b"), of("a", "a")}} { // a span without keys is one of Reads
				judged(t, m, floor+1, txns(reads(read, list...)), either(read < floor, api.Late, api.Fine))
			}
		}
		last(t, m, all(), 0)
	}
}

// What is Late is so whatever it reads; and nothing of it is written.
func TestLateFirst(t *testing.T) {
	for _, s := range []api.Span{all(), of("a", "b"), of("b", "c"), of("e", "e\x00"), of("", "")} {
		m := grown(t)
		for _, read := range []int{0, 1, 9} {
			judged(t, m, 41, txns(both(read, s, put("e", "9"), wipe("a", "z"))), api.Late)
		}
		isGrown(t, m, 10)
		forget(t, m, 39, api.OK)
		judged(t, m, 41, txns(both(38, s, put("e", "9"), wipe("a", "z"))), api.Late)
		isGrown(t, m, 39)
	}
}

func TestClash(t *testing.T) {
	for _, c := range []struct {
		read int
		list []api.Span
		want int
	}{
		{10, nil, api.Fine},
		{0, nil, api.Fine},
		{19, []api.Span{single("b")}, api.Clash},
		{20, []api.Span{single("b")}, api.Fine},
		{21, []api.Span{single("b")}, api.Fine},
		{10, []api.Span{single("b")}, api.Clash},
		{9, []api.Span{single("b")}, api.Late},
		{29, []api.Span{single("d")}, api.Clash},
		{30, []api.Span{single("d")}, api.Fine},
		{31, []api.Span{single("d")}, api.Fine},
		{39, []api.Span{single("e")}, api.Clash},
		{40, []api.Span{single("e")}, api.Fine},
		{41, []api.Span{single("e")}, api.Fine},
		{math.MaxInt, []api.Span{single("e")}, api.Fine},
		{39, []api.Span{all()}, api.Clash},
		{40, []api.Span{all()}, api.Fine},
		{10, []api.Span{single("a")}, api.Fine}, // beside what was written
		{10, []api.Span{of("", "b")}, api.Fine},
		{10, []api.Span{of("", "b\x00")}, api.Clash},
		{10, []api.Span{single("a" + strings.Repeat("\xff", 15))}, api.Fine},
		{10, []api.Span{single("m")}, api.Fine},
		{10, []api.Span{of("m", "p")}, api.Fine},
		{10, []api.Span{of("l", "p")}, api.Clash},
		{20, []api.Span{of("l", "p")}, api.Fine},
		{20, []api.Span{of("l", "p\x00")}, api.Clash},
		{10, []api.Span{of("q", "x")}, api.Fine},
		{10, []api.Span{single("x")}, api.Clash},
		{20, []api.Span{single("x")}, api.Fine},
		{20, []api.Span{single("x\x00")}, api.Clash},
		{30, []api.Span{single("x\x00")}, api.Fine},
		{10, []api.Span{of("x\x00\x00", "y")}, api.Fine},
		{20, []api.Span{of("b", "d")}, api.Fine},
		{20, []api.Span{of("b", "d\x00")}, api.Clash},
		{30, []api.Span{of("b", "e")}, api.Fine},
		{30, []api.Span{of("b", "e\x00")}, api.Clash},
		{30, []api.Span{of("e\x00", "m")}, api.Fine},
		{10, []api.Span{of("e", "e")}, api.Fine}, // no keys
		{10, []api.Span{{}, of("c", "c"), of("x", "x")}, api.Fine},
		{10, []api.Span{single("a"), single("n"), single("e")}, api.Clash}, // one of several
		{10, []api.Span{single("e"), single("a"), single("n")}, api.Clash},
		{10, []api.Span{single("a"), single("n"), single("q")}, api.Fine},
		{20, []api.Span{single("b"), single("f"), single("x")}, api.Fine},
		{20, []api.Span{single("b"), single("f"), single("d"), single("x")}, api.Clash},
	} {
		m := grown(t)
		judged(t, m, 50, txns(reads(c.read, c.list...)), c.want)
		isGrown(t, m, 10)
		judged(t, m, 50, txns(api.Txn{Read: c.read, Reads: c.list, Changes: []api.Change{put("aa", "1")}}), c.want)
		if c.want == api.Fine {
			last(t, m, single("aa"), 50)
			last(t, m, all(), 50)
		} else {
			isGrown(t, m, 10)
		}
	}
}

func TestChanges(t *testing.T) {
	for _, c := range []struct {
		list []api.Change
		want []api.Span
	}{
		{nil, nil},
		{[]api.Change{put("a", "1")}, []api.Span{single("a")}},
		{[]api.Change{put("a", "z")}, []api.Span{single("a")}}, // Value is no end
		{[]api.Change{put("b", "a")}, []api.Span{single("b")}},
		{[]api.Change{put("", "")}, []api.Span{single("")}},
		{[]api.Change{put(long(api.MaxKey), long(api.MaxValue))}, []api.Span{single(long(api.MaxKey))}},
		{[]api.Change{clearOf("a")}, []api.Span{single("a")}},
		{[]api.Change{clearOf("")}, []api.Span{single("")}},
		{[]api.Change{clearOf(long(api.MaxKey))}, []api.Span{single(long(api.MaxKey))}},
		{[]api.Change{wipe("", "")}, nil},
		{[]api.Change{wipe("a", "a")}, nil},
		{[]api.Change{wipe("a", "a\x00")}, []api.Span{single("a")}},
		{[]api.Change{wipe("a", "b")}, []api.Span{of("a", "b")}},
		{[]api.Change{wipe("", top())}, []api.Span{all()}},
		{[]api.Change{wipe("", top()), put("a", "1"), clearOf("b")}, []api.Span{all()}},
		{[]api.Change{put("a", "1"), clearOf("a"), wipe("a", "a\x00")}, []api.Span{single("a")}},
		{[]api.Change{put("a", "1"), put("a\x00", "1")}, []api.Span{of("a", "a\x00\x00")}},
		{[]api.Change{put("a\x00", "1"), put("a", "1")}, []api.Span{of("a", "a\x00\x00")}},
		{[]api.Change{put("a", "1"), put("b", "1")}, []api.Span{single("a"), single("b")}},
		{[]api.Change{wipe("b", "c"), wipe("a", "b"), wipe("d", "d"), clearOf("e")}, []api.Span{of("a", "c"), single("e")}},
	} {
		m := New(0)
		wrote(t, m, 7, c.list...)
		size(t, m, len(c.want))
		if got, e := change.Spans(c.list...); e != api.OK || !slices.Equal(got, c.want) {
			t.Fatalf("Spans(%v): %q", c.list, got)
		}
		from := ""
		for _, s := range c.want {
			last(t, m, s, 7)
			last(t, m, single(s.From), 7)
			last(t, m, of(from, s.From), 0)
			last(t, m, of(s.To, s.To), 0)
			from = s.To
		}
		last(t, m, of(from, strings.Repeat("\xff", 100)), 0)
		last(t, m, all(), either(len(c.want) > 0, 7, 0))
	}
}

// What reads what one ahead of it in the list writes: only where that one is Fine.
func TestAhead(t *testing.T) {
	for _, c := range []struct {
		list []api.Txn
		want []int
	}{
		{txns(writes(put("n", "1")), reads(40, single("n"))), []int{api.Fine, api.Clash}},
		{txns(writes(put("n", "1")), reads(49, single("n"))), []int{api.Fine, api.Clash}},
		{txns(writes(put("n", "1")), reads(50, single("n"))), []int{api.Fine, api.Fine}}, // not above its Read
		{txns(writes(put("n", "1")), reads(51, single("n"))), []int{api.Fine, api.Fine}},
		{txns(writes(put("n", "1")), reads(math.MaxInt, all())), []int{api.Fine, api.Fine}},
		{txns(writes(put("n", "1")), reads(10, of("m", "n"))), []int{api.Fine, api.Fine}},
		{txns(writes(put("n", "1")), reads(10, of("n\x00", "p"))), []int{api.Fine, api.Fine}},
		{txns(writes(put("n", "1")), reads(10, of("n", "n"))), []int{api.Fine, api.Fine}},
		{txns(writes(clearOf("n")), reads(40, single("n"))), []int{api.Fine, api.Clash}},
		{txns(writes(wipe("m", "p")), reads(40, single("n"))), []int{api.Fine, api.Clash}},
		{txns(writes(wipe("n", "n")), reads(40, single("n"))), []int{api.Fine, api.Fine}},
		{txns(reads(40, single("n")), writes(put("n", "1"))), []int{api.Fine, api.Fine}}, // behind it
		{txns(both(40, single("n"), put("n", "1"))), []int{api.Fine}},                    // its own is none ahead
		{txns(both(40, single("n"), put("n", "1")), both(40, single("n"), put("n", "1"))), []int{api.Fine, api.Clash}},
		{txns(writes(put("n", "1")), writes(put("n", "2"))), []int{api.Fine, api.Fine}},
		{txns(writes(put("n", "1")), reads(9, single("n"))), []int{api.Fine, api.Late}},
		{txns(both(39, all(), put("n", "1")), reads(40, single("n"))), []int{api.Clash, api.Fine}},
		{txns(both(9, all(), put("n", "1")), reads(40, single("n"))), []int{api.Late, api.Fine}},
		{txns(writes(put("n", "1")), both(40, single("n"), put("o", "1")), reads(40, single("o"))), []int{api.Fine, api.Clash, api.Fine}},
		{txns(writes(put("n", "1")), both(40, single("b"), put("o", "1")), reads(40, single("o")), reads(40, of("n", "p"))), []int{api.Fine, api.Fine, api.Clash, api.Clash}},
		{txns(both(39, all(), put("n", "1")), both(40, single("n"), put("n", "1")), both(40, single("n"), put("o", "1")), both(40, single("o"), put("n", "1"))), []int{api.Clash, api.Fine, api.Clash, api.Fine}},
		{txns(writes(put("n", "1")), writes(put("o", "1")), writes(put("oo", "1")), reads(40, of("m", "p"))), []int{api.Fine, api.Fine, api.Fine, api.Clash}},
		{txns(writes(put("e", "1")), reads(40, of("d", "e")), reads(40, single("e")), reads(30, of("e\x00", "f"))), []int{api.Fine, api.Fine, api.Clash, api.Fine}},
	} {
		m := grown(t)
		judged(t, m, 50, c.list, c.want...)
		for _, key := range []string{"n", "o", "oo"} {
			written := 0
			for i, x := range c.list {
				if spans, _ := change.Spans(x.Changes...); c.want[i] == api.Fine && slices.ContainsFunc(spans, func(s api.Span) bool { return s.From <= key && key < s.To }) {
					written = 50
				}
			}
			last(t, m, single(key), written)
		}
	}
}

// P11.3

func TestForget(t *testing.T) {
	for version := 10; version <= 60; version++ {
		m := grown(t)
		forget(t, m, version, api.OK)
		isGrown(t, m, version)
		for _, lower := range []int{math.MinInt, -1, 0, 9, 10, version - 1} {
			if lower < version {
				forget(t, m, lower, api.ErrOld)
			}
		}
		isGrown(t, m, version)
		at := max(version, 40) + 1
		wrote(t, m, at, put("a", ""), wipe("l", "q"))
		last(t, m, single("a"), at)
		last(t, m, of("l", "q"), at)
		last(t, m, of("f", "l"), either(version < 20, 20, 0))
		floorIs(t, m, version, at)
	}
}

// Forget by steps is as Forget at once.
func TestForgetBySteps(t *testing.T) {
	m := grown(t)
	for version := 10; version <= 60; version++ {
		forget(t, m, version, api.OK)
		isGrown(t, m, version)
	}
	forget(t, m, math.MaxInt, api.OK)
	forget(t, m, math.MaxInt, api.OK)
	forget(t, m, math.MaxInt-1, api.ErrOld)
	size(t, m, 0)
	last(t, m, all(), 0)
	floorIs(t, m, math.MaxInt, math.MaxInt)
}

func TestForgetBelow(t *testing.T) {
	for _, version := range []int{math.MinInt, math.MinInt + 1, -1, 0, 1, 9} {
		m := grown(t)
		forget(t, m, version, api.ErrOld)
		isGrown(t, m, 10)
	}
	for _, version := range []int{math.MinInt, -1} {
		forget(t, New(math.MinInt), version, api.ErrOld)
		forget(t, New(0), version, api.ErrOld)
	}
}

// Judge behind Forget: what is below the floor is Late, what is forgotten does not clash.
func TestForgetThenJudge(t *testing.T) {
	for _, c := range []struct {
		floor, read int
		s           api.Span
		want        int
	}{
		{10, 10, single("b"), api.Clash},
		{19, 19, single("b"), api.Clash},
		{20, 19, single("b"), api.Late},
		{20, 20, single("b"), api.Fine},
		{20, 20, single("d"), api.Clash},
		{20, 29, all(), api.Clash},
		{25, 24, of("", ""), api.Late},
		{25, 25, of("", "d"), api.Fine},
		{25, 25, of("f", "p"), api.Fine},
		{25, 25, of("f", "p\x00"), api.Clash},
		{30, 30, of("f", "p\x00"), api.Clash},
		{30, 30, of("a", "e"), api.Fine},
		{39, 39, all(), api.Clash},
		{40, 39, all(), api.Late},
		{40, 40, all(), api.Fine},
		{45, 44, single("a"), api.Late},
		{45, 45, all(), api.Fine},
	} {
		m := grown(t)
		forget(t, m, c.floor, api.OK)
		judged(t, m, 50, txns(both(c.read, c.s, put("b", ""))), c.want)
		last(t, m, single("b"), either(c.want == api.Fine, 50, either(c.floor < 20, 20, 0)))
	}
}

// Where all that was written is forgotten, Judge asks about the floor alone.
func TestForgetAll(t *testing.T) {
	m := grown(t)
	forget(t, m, 40, api.OK)
	refused(t, m, 40, api.ErrOrder)
	judged(t, m, 41, txns(reads(40, all())), api.Fine)
	forget(t, m, 1000, api.OK)
	refused(t, m, 41, api.ErrOrder)
	refused(t, m, 1000, api.ErrOrder)
	wrote(t, m, 1001, put("e", ""))
	size(t, m, 1)
	last(t, m, all(), 1001)
	forget(t, m, 1000, api.OK)
	size(t, m, 1)
	forget(t, m, 1001, api.OK)
	size(t, m, 0)
}

func TestSize(t *testing.T) {
	// Each row is written at a version of its own: 10, 20, ..
	for _, c := range []struct {
		rows [][]api.Change
		want []int
	}{
		{[][]api.Change{{wipe("a", "c")}, {wipe("c", "e")}}, []int{1, 2}}, // they touch, with two versions
		{[][]api.Change{{wipe("c", "e")}, {wipe("a", "c")}}, []int{1, 2}},
		{[][]api.Change{{wipe("a", "c"), wipe("c", "e")}}, []int{1}}, // with one version
		{[][]api.Change{{wipe("c", "e"), wipe("a", "c")}}, []int{1}},
		{[][]api.Change{{wipe("a", "c"), wipe("c\x00", "e")}}, []int{2}}, // a key lies between them
		{[][]api.Change{{wipe("a", "c"), wipe("c\x00", "e")}, {put("c", "")}}, []int{2, 3}},
		{[][]api.Change{{put("a", ""), put("a\x00", "")}}, []int{1}},
		{[][]api.Change{{put("a", ""), put("b", "")}}, []int{2}},
		{[][]api.Change{{put("a", "")}, {put("a", "")}, {clearOf("a")}}, []int{1, 1, 1}},
		{[][]api.Change{{wipe("a", "e")}, {wipe("b", "c")}}, []int{1, 3}}, // cut by a later one
		{[][]api.Change{{wipe("a", "e")}, {wipe("a", "c")}}, []int{1, 2}},
		{[][]api.Change{{wipe("a", "e")}, {wipe("c", "e")}}, []int{1, 2}},
		{[][]api.Change{{wipe("a", "e")}, {wipe("a", "e")}}, []int{1, 1}},
		{[][]api.Change{{wipe("b", "c")}, {wipe("a", "e")}}, []int{1, 1}}, // gone under a later one
		{[][]api.Change{{wipe("a", "e")}, {wipe("", "b")}}, []int{1, 2}},
		{[][]api.Change{{wipe("a", "e")}, {wipe("d", "g")}}, []int{1, 2}},
		{[][]api.Change{{wipe("a", "e")}, {wipe("e", "g")}, {wipe("d", "f")}}, []int{1, 2, 3}},
		{[][]api.Change{{wipe("a", "e")}, {wipe("e", "g")}, {wipe("a", "g")}}, []int{1, 2, 1}},
		{[][]api.Change{{put("a", ""), put("b", ""), put("c", ""), put("d", "")}, {wipe("b", "d")}, {put("b", ""), put("c", "")}, {wipe("", top())}}, []int{4, 3, 6, 1}},
		{[][]api.Change{{wipe("a", "g")}, {put("b", ""), put("d", ""), put("f", "")}, {wipe("b", "d")}, {wipe("c", "e")}, {wipe("c", "c")}}, []int{1, 7, 6, 6, 6}},
		{[][]api.Change{{wipe("a", "a")}, nil, {wipe("", "")}}, []int{0, 0, 0}},
		{[][]api.Change{{wipe("", top())}, {put("", "")}, {wipe("\x00", top())}}, []int{1, 2, 2}},
	} {
		m := New(5)
		for i, row := range c.rows {
			wrote(t, m, 10+10*i, row...)
			size(t, m, c.want[i])
		}
		many := New(5) // the same, each change in a transaction of its own
		for i, row := range c.rows {
			var list []api.Txn
			for _, x := range row {
				list = append(list, writes(x))
			}
			judged(t, many, 10+10*i, list, slices.Repeat([]int{api.Fine}, len(list))...)
			size(t, many, c.want[i])
		}
	}
}

// Spans of one version are one where they come to touch within one list.
func TestSizeOneVersion(t *testing.T) {
	m := New(0)
	wrote(t, m, 10, wipe("a", "z"))
	judged(t, m, 20, txns(writes(wipe("b", "c")), writes(wipe("e", "g")), writes(wipe("c", "d")), writes(wipe("d", "e"))), api.Fine, api.Fine, api.Fine, api.Fine)
	size(t, m, 3)
	last(t, m, of("a", "b"), 10)
	last(t, m, of("b", "g"), 20)
	last(t, m, of("g", "z"), 10)
	judged(t, m, 30, txns(writes(put("c", ""), put("f", "")), writes(wipe("bb", "ff")), reads(30, all()), writes(wipe("c", "d"))), api.Fine, api.Fine, api.Fine, api.Fine)
	size(t, m, 5)
	last(t, m, of("bb", "ff"), 30)
	last(t, m, of("b", "bb"), 20)
	last(t, m, of("ff", "g"), 20)
}

func TestSizeForget(t *testing.T) {
	m := New(0)
	wrote(t, m, 10, wipe("a", "g"))
	wrote(t, m, 20, wipe("b", "c"), wipe("e", "f"))
	size(t, m, 5)
	forget(t, m, 9, api.OK)
	size(t, m, 5)
	forget(t, m, 10, api.OK)
	size(t, m, 2)
	wrote(t, m, 30, wipe("c", "e"))
	size(t, m, 3)
	forget(t, m, 20, api.OK)
	size(t, m, 1)
	wrote(t, m, 40, wipe("a", "c"))
	size(t, m, 2)
	forget(t, m, 30, api.OK)
	size(t, m, 1)
	forget(t, m, 40, api.OK)
	size(t, m, 0)
}

// Memory

// scratch turns all changes and spans of a transaction, the spare room of its lists included.
func scratch(x *api.Txn) {
	x.Read = 77
	reads, changes := x.Reads[:cap(x.Reads)], x.Changes[:cap(x.Changes)]
	for i := range reads {
		reads[i] = of("!", "!!")
	}
	for i := range changes {
		changes[i] = put("!", "!")
	}
}

// What who gave transactions does with them is nothing to it; nor does it turn them, or the spare room of their lists.
func TestHandedIn(t *testing.T) {
	make1 := func() []api.Txn {
		spans := []api.Span{single("a"), of("m", "p"), of("r", "s"), of("u", "v")}
		changes := []api.Change{wipe("h", "k"), put("c", "1"), clearOf("a"), put("e", ""), wipe("b", "z")}
		return txns(
			api.Txn{Read: 40, Reads: spans[:2], Changes: changes[:3]},
			api.Txn{Read: 10, Reads: []api.Span{all()}, Changes: slices.Clone(changes)},
			writes(slices.Clone(changes[3:])[:1]...),
			writes(put("spare", "")),
			writes(put("spare", "")),
		)
	}
	list := make1()
	m := grown(t)
	judged(t, m, 50, list[:3], api.Fine, api.Clash, api.Fine)
	if want := make1(); fmt.Sprint(list) != fmt.Sprint(want) {
		t.Errorf("what was handed in is now %v, not %v", list, want)
	}
	if room := list[0].Changes[:5]; room[3] != put("e", "") || room[4] != wipe("b", "z") {
		t.Errorf("the spare room of what was handed in is now %v", room)
	}
	if room := list[0].Reads[:4]; room[2] != of("r", "s") || room[3] != of("u", "v") {
		t.Errorf("the spare room of what was handed in is now %v", room)
	}
	for i := range list {
		scratch(&list[i])
	}
	is := func() {
		t.Helper()
		for _, x := range []mark{{of("", "a"), 0}, {single("a"), 50}, {of("a\x00", "b"), 0}, {of("b", "c"), 20}, {single("c"), 50}, {of("c\x00", "d"), 20}, {of("d", "e"), 30}, {single("e"), 50}, {of("e\x00", "f"), 30}, {of("f", "h"), 20}, {of("h", "k"), 50}, {of("k", "m"), 20}, {of("m", "p"), 0}} {
			last(t, m, x.Span, x.version)
		}
		size(t, m, 13)
	}
	is()
	wrote(t, m, 60, put("q", ""))
	forget(t, m, 12, api.OK)
	judged(t, m, 70, txns(reads(60, all())), api.Fine)
	for i := range list {
		for _, c := range list[i].Changes[:cap(list[i].Changes)] {
			if c != put("!", "!") {
				t.Errorf("what was handed in is now %v", list)
			}
		}
	}
}

// What was answered is the caller's: no verdict of it, nor of its spare room, is another answer's.
func TestAnswers(t *testing.T) {
	m := grown(t)
	give := func(version int) []int {
		l, e := m.Judge(version, reads(40, all()), reads(39, all()), reads(9, all()))
		if e != api.OK {
			t.Fatal(e)
		}
		return l
	}
	var answers [][]int
	for version := range 5 {
		answers = append(answers, give(50+version))
	}
	for i, l := range answers {
		if !slices.Equal(l, []int{api.Fine, api.Clash, api.Late}) {
			t.Errorf("%d: %v", i, l)
		}
		l = l[:cap(l)]
		for j := range l {
			l[j] = 99
		}
	}
	isGrown(t, m, 10)
	if l := give(60); !slices.Equal(l, []int{api.Fine, api.Clash, api.Late}) {
		t.Errorf("behind a turned answer: %v", l)
	}
	for _, l := range answers {
		if slices.ContainsFunc(l[:cap(l)], func(v int) bool { return v != 99 }) {
			t.Errorf("an answer is now %v", l)
		}
	}
}

// All promises together

// points: ends between which all spans of the ways lie; of each two that are neighbours the first one is From, the other one To of a piece.
func points() []string {
	return []string{"", "a", "a\x00", "a\x00\x00", "b", "c", "c\x00", "d", long(api.MaxKey), long(api.MaxKey) + "\x00", "x"}
}

// plain: of each piece between points when it was written last, and nothing else.
type plain struct {
	floor   int
	written []int // 0: never
}

func newPlain(floor int) *plain {
	return &plain{floor: floor, written: make([]int, len(points())-1)}
}

// last: of a span with points for ends.
func (p *plain) last(s api.Span) int {
	n := 0
	for i, from := range points()[:len(p.written)] {
		if s.From <= from && from < s.To && p.written[i] > p.floor {
			n = max(n, p.written[i])
		}
	}
	return n
}

func (p *plain) size() int {
	n := 0
	for i, version := range p.written {
		if version > p.floor && (i == 0 || p.written[i-1] != version) {
			n++
		}
	}
	return n
}

func (p *plain) newest() int { return max(p.floor, slices.Max(p.written)) }

func (p *plain) forget(version int) api.Errno {
	if version < p.floor {
		return api.ErrOld
	}
	p.floor = version
	return api.OK
}

func (p *plain) verdict(x api.Txn) int {
	if len(x.Reads) > 0 && x.Read < p.floor {
		return api.Late
	}
	for _, s := range x.Reads {
		if p.last(s) > x.Read {
			return api.Clash
		}
	}
	return api.Fine
}

func (p *plain) write(version int, c api.Change) {
	for i, from := range points()[:len(p.written)] {
		if c.Kind == api.Wipe && c.Key <= from && from < c.Value || c.Kind != api.Wipe && c.Key == from {
			p.written[i] = version
		}
	}
}

func (p *plain) judge(version int, list ...api.Txn) ([]int, api.Errno) {
	if version <= p.newest() {
		return nil, api.ErrOrder
	}
	if len(list) > api.MaxBatch || slices.ContainsFunc(list, func(x api.Txn) bool { return x.Read < 0 }) { // no other fault is in a way
		return nil, api.ErrForm
	}
	var out []int
	for _, x := range list {
		v := p.verdict(x)
		for _, c := range x.Changes {
			if v == api.Fine {
				p.write(version, c)
			}
		}
		out = append(out, v)
	}
	return out, api.OK
}

// differs: what it says otherwise than the plain one; empty: nothing.
func differs(m *Marks, p *plain) string {
	if m.Size() != p.size() {
		return fmt.Sprintf("Size: %d, not %d", m.Size(), p.size())
	}
	for _, from := range points() {
		for _, to := range points() {
			s := of(from, to)
			if n, ok := m.Last(s); n != p.last(s) || ok != (n > 0) {
				return fmt.Sprintf("Last(%q): %d, %v, not %d", s, n, ok, p.last(s))
			}
		}
	}
	return ""
}

// step: one call of marks and of plain ones: are the answers the same?
type step struct {
	name string
	do   func(m *Marks, p *plain) bool
}

// forgetStep: at so much above the floor.
func forgetStep(by int) step {
	return step{fmt.Sprint("forget ", by), func(m *Marks, p *plain) bool {
		version := p.floor + by
		return m.Forget(version) == p.forget(version)
	}}
}

// judgeStep: at so much above the newest version; the Reads of the transactions are so much above the floor, but where they are below 0.
func judgeStep(by int, list ...api.Txn) step {
	return step{fmt.Sprint("judge ", by, " ", list), func(m *Marks, p *plain) bool {
		version := p.newest() + by
		given := slices.Clone(list)
		for i := range given {
			if given[i].Read >= 0 {
				given[i].Read = max(0, p.floor-1+given[i].Read) // 0: one below
			}
		}
		l, e := m.Judge(version, given...)
		want, f := p.judge(version, given...)
		return slices.Equal(l, want) && e == f
	}}
}

// walk: goes this way, and fails where it is not what the words say; behind so many steps each time, and behind all, everything is asked.
func walk(t *testing.T, floor int, way []step, steps int) {
	t.Helper()
	m, p := New(floor), newPlain(floor)
	for i, s := range way {
		if !s.do(m, p) {
			t.Fatalf("from %d on: at %d: another answer: %v", floor, i, told(way[:i+1]))
		}
		if (i+1)%steps != 0 && i < len(way)-1 {
			continue
		}
		if fault := differs(m, p); fault != "" {
			t.Fatalf("from %d on: at %d: %s: %v", floor, i, fault, told(way[:i+1]))
		}
	}
}

// told: the names of these steps.
func told(way []step) []string {
	var out []string
	for _, s := range way {
		out = append(out, s.name)
	}
	return out
}

// All ways of a few calls.
func TestShortWays(t *testing.T) {
	steps := []step{
		judgeStep(0, writes(put("b", ""))), judgeStep(1), judgeStep(3, writes(wipe("b", "b"))), judgeStep(1, reads(-1)),
		judgeStep(1, writes(put("a", ""))), judgeStep(2, writes(wipe("a\x00", "c"))), judgeStep(1, writes(wipe("", "x"))),
		judgeStep(1, writes(clearOf("a"), put("a\x00", "")), writes(wipe("c", "d"))),
		judgeStep(2, both(1, of("a", "b"), wipe("b", "c")), both(1, of("b", "d"), put("a", "")), writes(put("c", ""))),
		judgeStep(1, both(2, single("a"), wipe("a\x00", "b")), both(0, of("", ""), put("a", "")), both(3, of("a\x00", "c\x00"), put("c", ""))),
		judgeStep(1, writes(wipe("b", "c")), writes(wipe("a", "b")), both(4, of("a", "c"), put("c", "")), writes(wipe("c", "d"))),
		judgeStep(1, make([]api.Txn, 5)...),
		forgetStep(-1), forgetStep(0), forgetStep(1), forgetStep(2), forgetStep(4),
	}
	for floor, calls := range map[int]int{0: 3, 7: 4} {
		var further func(way []step, more int)
		further = func(way []step, more int) {
			if more == 0 {
				walk(t, floor, way, len(way))
				return
			}
			for _, s := range steps {
				further(append(way[:len(way):len(way)], s), more-1)
			}
		}
		further(nil, calls)
	}
}

// picked: a transaction of these points.
func picked(pick *rand.Rand) api.Txn {
	ends := points()
	x := api.Txn{Read: pick.IntN(12)}
	for range pick.IntN(3) {
		a, b := ends[pick.IntN(len(ends))], ends[pick.IntN(len(ends))]
		x.Reads = append(x.Reads, of(min(a, b), max(a, b)))
	}
	for range pick.IntN(4) {
		a, b := ends[pick.IntN(len(ends))], ends[pick.IntN(len(ends))]
		key := []string{"a", "a\x00", "c", long(api.MaxKey)}[pick.IntN(4)]
		x.Changes = append(x.Changes, []api.Change{put(key, a), clearOf(key), wipe(min(a, b), max(a, b)), wipe(a, a)}[pick.IntN(4)])
	}
	return x
}

// Some ways of many calls, the same ones each time.
func TestLongWays(t *testing.T) {
	steps := []step{forgetStep(0), forgetStep(1), forgetStep(2), forgetStep(5), forgetStep(-1), judgeStep(0), judgeStep(-3), judgeStep(1, reads(-1)), judgeStep(4)}
	pick := rand.New(rand.NewPCG(11, 1))
	for i := range 120 {
		var list []api.Txn
		for range 1 + i%4 {
			list = append(list, picked(pick))
		}
		steps = append(steps, judgeStep(1+i%3, list...))
	}
	for range 300 {
		way := make([]step, 60)
		for i := range way {
			way[i] = steps[pick.IntN(len(steps))]
		}
		for _, floor := range []int{0, 1000} {
			walk(t, floor, way, 4)
		}
	}
}

// Many keys, behind many Judges: each is as a plain list of all keys' last versions has it.
func TestMany(t *testing.T) {
	const keys = 400
	key := func(i int) string { return fmt.Sprintf("%04d", i) }
	m, written, floor := New(0), make([]int, keys), 0
	pick := rand.New(rand.NewPCG(11, 2))
	for i := range 600 {
		version := 10 * (i + 1)
		var list []api.Change
		for range 1 + i%5 {
			from := pick.IntN(keys)
			to := min(keys, from+pick.IntN(12))
			list = append(list, wipe(key(from), key(to)))
			for at := from; at < to; at++ {
				written[at] = version
			}
		}
		wrote(t, m, version, list...)
		if i%7 == 6 {
			floor = max(floor, version-10*api.Window)
			forget(t, m, floor, api.OK)
		}
		if i%50 != 49 {
			continue
		}
		n := 0
		for at, version := range written {
			if version <= floor {
				version = 0
			}
			last(t, m, of(key(at), key(at+1)), version)
			if version > 0 && (at == 0 || written[at-1] != version) {
				n++
			}
		}
		size(t, m, n)
		for at := range keys {
			read := floor + pick.IntN(version-floor+1)
			to := min(keys, at+1+pick.IntN(20))
			want := api.Fine
			if slices.ContainsFunc(written[at:to], func(n int) bool { return n > floor && n > read }) {
				want = api.Clash
			}
			judged(t, m, version+1, txns(reads(read, of(key(at), key(to)))), want)
		}
	}
}

// The same calls give the same answers.
func TestSameAgain(t *testing.T) {
	for range 50 {
		isGrown(t, grown(t), 10)
	}
}
