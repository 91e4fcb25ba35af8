package shards

import (
	"fmt"
	"math"
	"math/rand/v2"
	"slices"
	"strings"
	"testing"

	"roundhouse/api"
	"roundhouse/change"
	"roundhouse/frame"
)

func put(key, value string) api.Change { return api.Change{Kind: api.Put, Key: key, Value: value} }

func clearOf(key string) api.Change { return api.Change{Kind: api.Clear, Key: key} }

func wipe(from, to string) api.Change { return api.Change{Kind: api.Wipe, Key: from, Value: to} }

func of(from, to string) api.Span { return api.Span{From: from, To: to} }

// single: the span of one key alone.
func single(key string) api.Span { return of(key, key+"\x00") }

// long: so many bytes; high: so many of the greatest byte.
func long(n int) string { return strings.Repeat("k", n) }
func high(n int) string { return strings.Repeat("\xff", n) }

// last: what the last piece's To has to be.
func last() string { return high(17) }

func all() api.Span { return of("", last()) }

func changes(list ...api.Change) []api.Change { return list }

func spans(list ...api.Span) []api.Span { return list }

// bounds: lists of bounds that are sound: of each length, with each number of bytes, and with neighbours.
func bounds() [][]string {
	return [][]string{
		nil,
		{},
		{"g"},
		{"\x00"},
		{"\xff"},
		{long(16)},
		{high(16)},
		{"g", "p"},
		{"a", "a\x00"},
		{"a", "ab"},
		{"\x7f", "\x80"},
		{"z", "é"},
		{high(15), high(16)},
		{"\x00", strings.Repeat("\x00", 16)},
		{long(15), long(16)},
		{long(16), "l"},
		{"b", "d", "f"},
		{"\x00", "m", high(16)},
		{"a", "b", "c", "d", "e", "f"},
		{"a", "b", "c", "d", "e", "f", "g"},
		{"a", "a\x00", "a\x00\x00", "b", "b\x00", high(15), high(16)},
	}
}

// badBounds: lists that are not sound, with the fault at the first, a middle and the last place.
func badBounds() [][]string {
	out := [][]string{
		{"1", "2", "3", "4", "5", "6", "7", "8"}, // MaxTags of them
		{"1", "2", "3", "4", "5", "6", "7", "8", "9"},
		make([]string, 8),
		slices.Repeat([]string{"a"}, 1000),
		{"b", "a"}, // they fall
		{"b", "a", "c"},
		{"a", "c", "b"},
		{"c", "a", "b"},
		{"a", "b", "d", "c", "e", "f", "g"},
		{"b", "a", "c", "d", "e", "f", "g"},
		{"a", "b", "c", "d", "e", "g", "f"},
		{"a\x00", "a"},
		{"ab", "a"},
		{"\x80", "\x7f"},
		{"é", "z"},
		{high(16), high(15)},
		{"a", "a"}, // they are alike
		{"a", "a", "b"},
		{"a", "b", "b"},
		{"a", "b", "b", "c"},
		{high(16), high(16)},
		{"a", "b", "c", "d", "e", "f", "f"},
	}
	for _, wrong := range []string{"", long(17), long(18), long(1000), high(17), "b" + long(16)} {
		out = append(out, []string{wrong}, []string{wrong, "z"}, []string{"a", wrong}, []string{"a", wrong, "z"}, []string{"a", "b", "c", wrong, "x", "y", "z"}, []string{"a", "b", "c", "d", "e", "f", wrong})
	}
	return append(out, []string{"", ""}, []string{"", long(17)}, []string{"", "a", "b", "c", "d", "e", "f", "g"})
}

// fault: a change that is not sound, and why.
type fault struct {
	c api.Change
	e api.Errno
}

func faults() []fault {
	var out []fault
	for _, kind := range []int{0, -1, 4, math.MaxInt, math.MinInt} {
		out = append(out, fault{api.Change{Kind: kind}, api.ErrArg}, fault{api.Change{Kind: kind, Key: "b", Value: "a"}, api.ErrArg}, fault{api.Change{Kind: kind, Key: long(99)}, api.ErrArg})
	}
	for _, c := range changes(
		put(long(17), ""), put("a", long(65)), put(high(17), ""), put(last()+"\x00", ""),
		clearOf(long(17)), clearOf(high(17)), clearOf(high(18)), api.Change{Kind: api.Clear, Key: "a", Value: "1"},
		wipe("a", long(18)), wipe(long(18), "z"), wipe("a", high(18)), wipe("", last()+"\x00"), wipe(last(), last()+"\x00"), wipe(high(18), high(18)), wipe("z"+long(17), "a"),
	) {
		out = append(out, fault{c, api.ErrLarge})
	}
	for _, c := range changes(wipe("b", "a"), wipe("a", ""), wipe("a\x00", "a"), wipe(last(), high(16)), wipe("\xff", "é")) {
		out = append(out, fault{c, api.ErrRange})
	}
	return out
}

// badTxns: transactions that are not sound.
func badTxns() []api.Txn {
	var out []api.Txn
	for _, read := range []int{-1, -2, math.MinInt} {
		out = append(out, api.Txn{Read: read}, api.Txn{Read: read, Reads: spans(all())}, api.Txn{Read: read, Changes: changes(put("a", "1"))})
	}
	out = append(out,
		api.Txn{Reads: make([]api.Span, 25)}, api.Txn{Reads: slices.Repeat(spans(single("a")), 1000)},
		api.Txn{Changes: slices.Repeat(changes(put("a", "1")), 25)}, api.Txn{Changes: slices.Repeat(changes(put("a", "1")), 1000)})
	good := spans(of("a", "h"), of("c", "c"))
	for _, s := range spans(of("b", "a"), of("a\x00", "a"), of("a", ""), of("", long(18)), of(long(18), "z"), of("a", high(18)), of("", last()+"\x00"), of(last(), high(18)), of(high(18), high(18))) {
		out = append(out, api.Txn{Read: 5, Reads: spans(s)}, api.Txn{Read: 5, Reads: append(spans(s), good...)}, api.Txn{Read: 5, Reads: append(slices.Clone(good), s)})
	}
	for _, f := range faults() {
		out = append(out,
			api.Txn{Changes: changes(f.c)}, api.Txn{Read: 5, Reads: good, Changes: changes(f.c, put("a", "1"))},
			api.Txn{Read: 5, Reads: good, Changes: changes(put("a", "1"), wipe("b", "c"), f.c)}, api.Txn{Reads: spans(of("b", "a")), Changes: changes(f.c)})
	}
	return out
}

// keys: those that tell pieces apart: of each text the one just below it (as far as 17 bytes can tell), itself, and what is just behind it; and keys longer than any that is written.
func keys() []string {
	out := []string{"", "\x00", "\x01", strings.Repeat("\x00", 15), strings.Repeat("\x00", 16), strings.Repeat("\x00", 17), long(15), long(16), long(17), long(18), long(1000), "\x80", "é"}
	for c := byte('`'); c <= 'z'; c++ {
		k := string(rune(c))
		out = append(out, k, k+"\x00", k+"\x00\x00", k+"\x00\x01", k+"b", k+high(15), k+high(16), k+high(40))
	}
	for n := 1; n <= 20; n++ {
		out = append(out, high(n), high(n)+"\x00", high(n-1)+"\xfe", high(n-1)+"\xfe"+high(20))
	}
	return append(out, last()+last(), high(1000))
}

// pieceOf: how many bounds are not above a key: the plain way to tell its piece.
func pieceOf(bounds []string, key string) int {
	n := 0
	for _, b := range bounds {
		if b <= key {
			n++
		}
	}
	return n
}

// ends: a piece's From and To, each found by itself.
func ends(bounds []string, n int) (string, string) {
	list := append(append([]string{""}, bounds...), last())
	return list[n], list[n+1]
}

// told: a value with all its bytes to be seen, but not too many of them.
func told(x any) string { return fmt.Sprintf("%+.300q", fmt.Sprint(x)) }

func which(t *testing.T, bounds []string, key string, want int) {
	t.Helper()
	if n, e := Which(bounds, key); n != want || e != api.OK {
		t.Errorf("Which(%q, %.40q): %d, %d, not %d", bounds, key, n, e, want)
	}
}

func pieceIs(t *testing.T, bounds []string, n int, want api.Span) {
	t.Helper()
	if s, e := Piece(bounds, n); s != want || e != api.OK {
		t.Errorf("Piece(%q, %d): %q, %d, not %q", bounds, n, s, e, want)
	}
}

func noPiece(t *testing.T, bounds []string, n int, want api.Errno) {
	t.Helper()
	if s, e := Piece(bounds, n); s != (api.Span{}) || e != want {
		t.Errorf("Piece(%.99q, %d): %q, %d, not %d", bounds, n, s, e, want)
	}
}

// spread: so is Spread; a list that is nil and an empty one are the same.
func spread(t *testing.T, bounds []string, list []api.Change, want ...[]api.Change) {
	t.Helper()
	if got, e := Spread(bounds, list...); !slices.EqualFunc(got, want, slices.Equal) || e != api.OK {
		t.Errorf("Spread(%s, %s): %s, %d, not %s", told(bounds), told(list), told(got), e, told(want))
	}
}

func notSpread(t *testing.T, bounds []string, want api.Errno, list ...api.Change) {
	t.Helper()
	if got, e := Spread(bounds, list...); got != nil || e != want {
		t.Errorf("Spread(%.99q, %s): %s, %d, not %d", bounds, told(list), told(got), e, want)
	}
}

func same(a, b api.Txn) bool {
	return a.Read == b.Read && slices.Equal(a.Reads, b.Reads) && slices.Equal(a.Changes, b.Changes)
}

func carve(t *testing.T, bounds []string, x api.Txn, want ...api.Txn) {
	t.Helper()
	if got, e := Carve(bounds, x); !slices.EqualFunc(got, want, same) || e != api.OK {
		t.Errorf("Carve(%s, %s): %s, %d, not %s", told(bounds), told(x), told(got), e, told(want))
	}
}

func notCarved(t *testing.T, bounds []string, x api.Txn) {
	t.Helper()
	if got, e := Carve(bounds, x); got != nil || e != api.ErrForm {
		t.Errorf("Carve(%.99q, %s): %s, %d, not ErrForm", bounds, told(x), told(got), e)
	}
}

// All: the bounds

func TestBadBounds(t *testing.T) {
	for _, b := range badBounds() {
		for _, key := range []string{"", "a", "b", "x", long(17), high(18)} {
			if n, e := Which(b, key); n != 0 || e != api.ErrForm {
				t.Errorf("Which(%.99q, %.40q): %d, %d", b, key, n, e)
			}
		}
		for _, n := range []int{0, 1, len(b) - 1, len(b)} {
			noPiece(t, b, n, api.ErrForm)
		}
		notSpread(t, b, api.ErrForm)
		notSpread(t, b, api.ErrForm, put("a", "1"), wipe("", last()))
		notCarved(t, b, api.Txn{})
		notCarved(t, b, api.Txn{Read: 5, Reads: spans(all()), Changes: changes(put("a", "1"))})
	}
}

func TestHowManyBounds(t *testing.T) {
	for n := range 20 {
		var b []string
		for i := range n {
			b = append(b, fmt.Sprintf("%02d", i))
		}
		_, e1 := Which(b, "10")
		_, e2 := Piece(b, 0)
		_, e3 := Spread(b)
		_, e4 := Carve(b, api.Txn{})
		want := api.OK
		if n > api.MaxTags-1 {
			want = api.ErrForm
		}
		if e1 != want || e2 != want || e3 != want || e4 != want {
			t.Errorf("%d bounds: %d, %d, %d, %d, not %d", n, e1, e2, e3, e4, want)
		}
	}
}

func TestBoundBytes(t *testing.T) {
	for n := range 40 {
		for _, b := range [][]string{{long(n)}, {"a", long(n)}, {long(n), "z"}, {"a", long(n), "z"}, {high(n)}} {
			want := api.OK
			if n < 1 || n > api.MaxKey {
				want = api.ErrForm
			}
			_, e1 := Which(b, "a")
			_, e2 := Piece(b, 1)
			_, e3 := Spread(b, put("a", ""))
			_, e4 := Carve(b, api.Txn{})
			if e1 != want || e2 != want || e3 != want || e4 != want {
				t.Errorf("a bound of %d bytes: %d, %d, %d, %d, not %d", n, e1, e2, e3, e4, want)
			}
		}
	}
}

// Of errors that both apply the first one is told.
func TestTies(t *testing.T) {
	for _, b := range badBounds() {
		for _, n := range []int{-1, math.MinInt, len(b) + 1, math.MaxInt} {
			noPiece(t, b, n, api.ErrForm)
		}
		for _, f := range faults() {
			notSpread(t, b, api.ErrForm, f.c)
			notSpread(t, b, api.ErrForm, put("a", "1"), f.c)
		}
		for _, x := range badTxns() {
			notCarved(t, b, x)
		}
	}
	for _, one := range faults() {
		for _, two := range faults() {
			notSpread(t, nil, one.e, one.c, two.c)
			notSpread(t, []string{"a", "m"}, one.e, put("a", "1"), one.c, wipe("", last()), two.c)
		}
	}
}

// P12.1

func TestWhich(t *testing.T) {
	seven := []string{"a", "b", "c", "d", "e", "f", "g"}
	for _, c := range []struct {
		bounds []string
		key    string
		want   int
	}{
		{nil, "", 0},
		{nil, "a", 0},
		{nil, long(17), 0},
		{nil, high(17), 0},
		{nil, high(1000), 0},
		{[]string{"g"}, "", 0},
		{[]string{"g"}, "f", 0},
		{[]string{"g"}, "f" + high(15), 0},
		{[]string{"g"}, "f" + high(1000), 0},
		{[]string{"g"}, "g", 1},
		{[]string{"g"}, "g\x00", 1},
		{[]string{"g"}, high(17), 1},
		{[]string{"g"}, high(18), 1},
		{[]string{"\x00"}, "", 0},
		{[]string{"\x00"}, "\x00", 1},
		{[]string{high(16)}, high(15), 0},
		{[]string{high(16)}, high(15) + "\xfe\xff", 0},
		{[]string{high(16)}, high(16), 1},
		{[]string{high(16)}, high(17), 1},
		{[]string{high(16)}, high(16) + "\x00", 1},
		{[]string{"g", "p"}, "o" + high(20), 1},
		{[]string{"g", "p"}, "p", 2},
		{[]string{"g", "p"}, "z", 2},
		{[]string{"a", "a\x00"}, "`" + high(15), 0},
		{[]string{"a", "a\x00"}, "a", 1},
		{[]string{"a", "a\x00"}, "a\x00", 2},
		{[]string{"a", "a\x00"}, "a\x00\x00", 2},
		{[]string{"z", "é"}, "\x7f", 1},
		{[]string{"z", "é"}, "é", 2},
		{seven, "", 0},
		{seven, "`", 0},
		{seven, "a", 1},
		{seven, "az", 1},
		{seven, "c", 3},
		{seven, "fz", 6},
		{seven, "g", 7},
		{seven, "h", 7},
		{seven, high(99), 7},
	} {
		which(t, c.bounds, c.key, c.want)
	}
}

func TestWhichPlain(t *testing.T) {
	for _, b := range bounds() {
		for _, key := range append(keys(), b...) {
			which(t, b, key, pieceOf(b, key))
		}
	}
}

func TestPiece(t *testing.T) {
	for _, c := range []struct {
		bounds []string
		want   []api.Span
	}{
		{nil, spans(of("", high(17)))},
		{[]string{}, spans(of("", high(17)))},
		{[]string{"g"}, spans(of("", "g"), of("g", high(17)))},
		{[]string{"\x00"}, spans(of("", "\x00"), of("\x00", high(17)))},
		{[]string{high(16)}, spans(of("", high(16)), of(high(16), high(17)))},
		{[]string{long(16)}, spans(of("", long(16)), of(long(16), high(17)))},
		{[]string{"g", "p"}, spans(of("", "g"), of("g", "p"), of("p", high(17)))},
		{[]string{"a", "a\x00"}, spans(of("", "a"), single("a"), of("a\x00", high(17)))},
		{[]string{"a", "b", "c", "d", "e", "f", "g"}, spans(of("", "a"), of("a", "b"), of("b", "c"), of("c", "d"), of("d", "e"), of("e", "f"), of("f", "g"), of("g", high(17)))},
	} {
		for n, want := range c.want {
			pieceIs(t, c.bounds, n, want)
		}
		noPiece(t, c.bounds, len(c.want), api.ErrArg)
	}
}

func TestNoPiece(t *testing.T) {
	for _, b := range bounds() {
		for _, n := range []int{-1, -2, -8, math.MinInt, math.MinInt + 1, len(b) + 1, len(b) + 2, 8, 9, 1 << 32, math.MaxInt - 1, math.MaxInt} {
			if n < 0 || n > len(b) {
				noPiece(t, b, n, api.ErrArg)
			}
		}
		for n := range len(b) + 1 {
			from, to := ends(b, n)
			pieceIs(t, b, n, of(from, to))
		}
	}
}

// Each key below the last piece's To is in just one piece, the one that Which tells; the others are in none.
func TestPiecesHaveAllKeys(t *testing.T) {
	for _, b := range bounds() {
		for _, key := range append(keys(), b...) {
			var in []int
			for n := range len(b) + 1 {
				if s, _ := Piece(b, n); s.From <= key && key < s.To {
					in = append(in, n)
				}
			}
			n, _ := Which(b, key)
			if key < last() && !slices.Equal(in, []int{n}) || key >= last() && in != nil {
				t.Errorf("%q, %.40q: in %v, Which tells %d", b, key, in, n)
			}
		}
	}
}

// P12.2: Spread

func TestSpread(t *testing.T) {
	two := []string{"g", "p"}
	for _, c := range []struct {
		bounds []string
		list   []api.Change
		want   [][]api.Change
	}{
		{nil, nil, [][]api.Change{nil}},
		{two, nil, [][]api.Change{nil, nil, nil}},
		{two, changes(), [][]api.Change{nil, nil, nil}},
		{nil, changes(put("a", "1"), clearOf("z"), wipe("b", "y")), [][]api.Change{changes(put("a", "1"), clearOf("z"), wipe("b", "y"))}},
		{nil, changes(wipe("b", "b"), wipe(last(), last()), put("", "")), [][]api.Change{changes(put("", ""))}},
		{two, changes(put("a", "1")), [][]api.Change{changes(put("a", "1")), nil, nil}},
		{two, changes(put("f"+high(15), "1")), [][]api.Change{changes(put("f"+high(15), "1")), nil, nil}},
		{two, changes(put("g", "1")), [][]api.Change{nil, changes(put("g", "1")), nil}},
		{two, changes(put("g\x00", "1")), [][]api.Change{nil, changes(put("g\x00", "1")), nil}},
		{two, changes(clearOf("o")), [][]api.Change{nil, changes(clearOf("o")), nil}},
		{two, changes(clearOf("p")), [][]api.Change{nil, nil, changes(clearOf("p"))}},
		{two, changes(put("", long(64))), [][]api.Change{changes(put("", long(64))), nil, nil}},
		{two, changes(put(high(16), "")), [][]api.Change{nil, nil, changes(put(high(16), ""))}},
		{two, changes(put("z", "a"), put("a", "z")), [][]api.Change{changes(put("a", "z")), nil, changes(put("z", "a"))}},
		{two, changes(wipe("g", "g")), [][]api.Change{nil, nil, nil}}, // no keys
		{two, changes(wipe("", ""), wipe("p", "p"), wipe(last(), last())), [][]api.Change{nil, nil, nil}},
		{two, changes(wipe("a", "c")), [][]api.Change{changes(wipe("a", "c")), nil, nil}}, // within one
		{two, changes(wipe("h", "k")), [][]api.Change{nil, changes(wipe("h", "k")), nil}},
		{two, changes(wipe("q", "r")), [][]api.Change{nil, nil, changes(wipe("q", "r"))}},
		{two, changes(wipe("a", "g")), [][]api.Change{changes(wipe("a", "g")), nil, nil}}, // up to a bound
		{two, changes(wipe("h", "p")), [][]api.Change{nil, changes(wipe("h", "p")), nil}},
		{two, changes(wipe("g", "h")), [][]api.Change{nil, changes(wipe("g", "h")), nil}}, // from a bound on
		{two, changes(wipe("p", "q")), [][]api.Change{nil, nil, changes(wipe("p", "q"))}},
		{two, changes(wipe("g", "p")), [][]api.Change{nil, changes(wipe("g", "p")), nil}},
		{two, changes(wipe("a", "g\x00")), [][]api.Change{changes(wipe("a", "g")), changes(wipe("g", "g\x00")), nil}}, // over some
		{two, changes(wipe("a", "h")), [][]api.Change{changes(wipe("a", "g")), changes(wipe("g", "h")), nil}},
		{two, changes(wipe("h", "q")), [][]api.Change{nil, changes(wipe("h", "p")), changes(wipe("p", "q"))}},
		{two, changes(wipe("a", "q")), [][]api.Change{changes(wipe("a", "g")), changes(wipe("g", "p")), changes(wipe("p", "q"))}}, // over all
		{two, changes(wipe("", last())), [][]api.Change{changes(wipe("", "g")), changes(wipe("g", "p")), changes(wipe("p", last()))}},
		{two, changes(wipe(high(16), last())), [][]api.Change{nil, nil, changes(wipe(high(16), last()))}},
		{two, changes(wipe("f"+long(16), "g"+long(16))), [][]api.Change{changes(wipe("f"+long(16), "g")), changes(wipe("g", "g"+long(16))), nil}},
		{[]string{"a", "a\x00"}, changes(wipe("", "b"), put("a", "1")), [][]api.Change{changes(wipe("", "a")), changes(wipe("a", "a\x00"), put("a", "1")), changes(wipe("a\x00", "b"))}},
		{[]string{high(16)}, changes(wipe("", last()), clearOf(high(16))), [][]api.Change{changes(wipe("", high(16))), changes(wipe(high(16), last()), clearOf(high(16)))}},
		{two, changes(wipe("f", "h"), put("g", "1"), wipe("f", "h"), put("f", "2"), put("g", "1"), clearOf("g")), [][]api.Change{ // their order stands, and none is left out
			changes(wipe("f", "g"), wipe("f", "g"), put("f", "2")), changes(wipe("g", "h"), put("g", "1"), wipe("g", "h"), put("g", "1"), clearOf("g")), nil}},
		{[]string{"a", "b", "c", "d", "e", "f", "g"}, changes(wipe("bb", "e"), put("g", "1")), [][]api.Change{
			nil, nil, changes(wipe("bb", "c")), changes(wipe("c", "d")), changes(wipe("d", "e")), nil, nil, changes(put("g", "1"))}},
	} {
		spread(t, c.bounds, c.list, c.want...)
	}
}

func TestSpreadFaults(t *testing.T) {
	good := changes(put("a", "1"), clearOf("g"), wipe("", last()))
	for _, b := range bounds() {
		for _, f := range faults() {
			if e := change.Check(f.c); e != f.e {
				t.Fatalf("Check(%s): %d", told(f.c), e)
			}
			notSpread(t, b, f.e, f.c)
			for i := range len(good) + 1 {
				notSpread(t, b, f.e, slices.Insert(slices.Clone(good), i, f.c)...)
			}
			notSpread(t, b, f.e, append(slices.Repeat(good, 1000), f.c)...)
		}
	}
}

// points: keys and ends between which the exhaustive tests go.
func points() []string { return []string{"", "\x00", "a", "a\x00", "c", long(16), high(16)} }

// oneChange: all of each kind between points, and those with the greatest ends.
func oneChange() []api.Change {
	var out []api.Change
	for i, from := range points() {
		out = append(out, put(from, "1"), clearOf(from), wipe(from, from), wipe(from, last()))
		for _, to := range points()[i+1:] {
			out = append(out, wipe(from, to))
		}
	}
	return append(out, wipe(last(), last()), put("a", ""))
}

// cutPlain: of each change what it does to keys from one on, below another one.
func cutPlain(from, to string, list []api.Change) []api.Change {
	var out []api.Change
	for _, c := range list {
		switch {
		case c.Kind != api.Wipe && from <= c.Key && c.Key < to:
			out = append(out, c)
		case c.Kind == api.Wipe && max(c.Key, from) < min(c.Value, to):
			out = append(out, wipe(max(c.Key, from), min(c.Value, to)))
		}
	}
	return out
}

// about: the changes that touch a key, without their ends.
func about(key string, list []api.Change) []api.Change {
	var out []api.Change
	for _, c := range list {
		if c.Kind == api.Wipe && c.Key <= key && key < c.Value {
			out = append(out, api.Change{Kind: api.Wipe})
		}
		if c.Kind != api.Wipe && c.Key == key {
			out = append(out, c)
		}
	}
	return out
}

// spreadRight: is Spread as each piece's ends tell, and are each key's changes those of the whole list, in its piece alone?
func spreadRight(t *testing.T, b []string, list []api.Change) {
	t.Helper()
	got, e := Spread(b, list...)
	if len(got) != len(b)+1 || e != api.OK {
		t.Fatalf("Spread(%s, %s): %s, %d", told(b), told(list), told(got), e)
	}
	for n, part := range got {
		from, to := ends(b, n)
		if !slices.Equal(part, cutPlain(from, to, list)) {
			t.Fatalf("Spread(%s, %s): %s", told(b), told(list), told(got))
		}
		for _, key := range append(points(), "b", "d", "g", "z") {
			var want []api.Change
			if n == pieceOf(b, key) {
				want = about(key, list)
			}
			if !slices.Equal(about(key, part), want) {
				t.Fatalf("Spread(%s, %s): %s: of %s", told(b), told(list), told(got), told(key))
			}
		}
	}
}

func TestSpreadPlain(t *testing.T) {
	for _, b := range bounds() {
		for _, one := range oneChange() {
			spreadRight(t, b, changes(one))
			for _, two := range oneChange() {
				spreadRight(t, b, changes(one, two))
			}
		}
	}
}

// What the pieces do to all pairs, one piece behind the other, in any order, is what the list does.
func TestSpreadApplied(t *testing.T) {
	var pairs []api.Pair
	for _, key := range points() {
		pairs = append(pairs, api.Pair{Key: key, Value: "0"})
	}
	for _, b := range bounds() {
		for _, one := range oneChange() {
			list := changes(put("b", "1"), one, clearOf("a"), put("a\x00", "2"), one, wipe("bb", "d"), put(long(16), "3"))
			want, _ := change.Apply(pairs, list...)
			parts, _ := Spread(b, list...)
			got, back := pairs, pairs
			for n := range parts {
				got, _ = change.Apply(got, parts[n]...)
				back, _ = change.Apply(back, parts[len(parts)-1-n]...)
			}
			if !slices.Equal(got, want) || !slices.Equal(back, want) {
				t.Fatalf("%s, %s: %s, %s, not %s", told(b), told(list), told(got), told(back), told(want))
			}
		}
	}
}

// A list may have more changes than a transaction.
func TestSpreadMany(t *testing.T) {
	var list []api.Change
	for i := range 5000 {
		key := fmt.Sprintf("%c%04d", 'a'+i%8, i)
		list = append(list, put(key, "1"), wipe(key, "c"+key))
		if list[2*i+1].Key > list[2*i+1].Value {
			list[2*i+1] = clearOf(key)
		}
	}
	for _, b := range bounds() {
		spreadRight(t, b, list)
	}
}

// P12.2: Carve

func TestCarve(t *testing.T) {
	two := []string{"g", "p"}
	for _, c := range []struct {
		bounds []string
		x      api.Txn
		want   []api.Txn
	}{
		{nil, api.Txn{}, []api.Txn{{}}},
		{two, api.Txn{}, []api.Txn{{}, {}, {}}},
		{two, api.Txn{Reads: spans(), Changes: changes()}, []api.Txn{{}, {}, {}}},
		{two, api.Txn{Read: 1}, []api.Txn{{Read: 1}, {Read: 1}, {Read: 1}}},
		{two, api.Txn{Read: math.MaxInt}, []api.Txn{{Read: math.MaxInt}, {Read: math.MaxInt}, {Read: math.MaxInt}}},
		{nil, api.Txn{Read: 9, Reads: spans(all(), of("b", "b"), single("a")), Changes: changes(wipe("a", "c"), wipe("b", "b"), put("a", "1"))},
			[]api.Txn{{Read: 9, Reads: spans(all(), single("a")), Changes: changes(wipe("a", "c"), put("a", "1"))}}},
		{two, api.Txn{Read: 7, Reads: spans(of("", ""), of("g", "g"), of("p", "p"), of(last(), last()))}, []api.Txn{{Read: 7}, {Read: 7}, {Read: 7}}},
		{two, api.Txn{Reads: spans(single(""), single("g"), single("p"), single(high(16)))}, []api.Txn{{Reads: spans(single(""))}, {Reads: spans(single("g"))}, {Reads: spans(single("p"), single(high(16)))}}},
		{two, api.Txn{Reads: spans(of("a", "c"))}, []api.Txn{{Reads: spans(of("a", "c"))}, {}, {}}},
		{two, api.Txn{Reads: spans(of("a", "g"))}, []api.Txn{{Reads: spans(of("a", "g"))}, {}, {}}},
		{two, api.Txn{Reads: spans(of("g", "h"))}, []api.Txn{{}, {Reads: spans(of("g", "h"))}, {}}},
		{two, api.Txn{Reads: spans(of("g", "p"))}, []api.Txn{{}, {Reads: spans(of("g", "p"))}, {}}},
		{two, api.Txn{Reads: spans(of("f", "g\x00"))}, []api.Txn{{Reads: spans(of("f", "g"))}, {Reads: spans(single("g"))}, {}}},
		{two, api.Txn{Reads: spans(of("h", "q"))}, []api.Txn{{}, {Reads: spans(of("h", "p"))}, {Reads: spans(of("p", "q"))}}},
		{two, api.Txn{Reads: spans(all())}, []api.Txn{{Reads: spans(of("", "g"))}, {Reads: spans(of("g", "p"))}, {Reads: spans(of("p", last()))}}},
		{two, api.Txn{Reads: spans(of("f"+long(16), "g"+long(16)))}, []api.Txn{{Reads: spans(of("f"+long(16), "g"))}, {Reads: spans(of("g", "g"+long(16)))}, {}}},
		{two, api.Txn{Reads: spans(of("h", "k"), of("a", "h"), of("h", "k"), of("b", "c"))}, []api.Txn{ // they stand as they were, not joined, not sorted
			{Reads: spans(of("a", "g"), of("b", "c"))}, {Reads: spans(of("h", "k"), of("g", "h"), of("h", "k"))}, {}}},
		{two, api.Txn{Read: 3, Reads: spans(single("a")), Changes: changes(put("z", "1"))}, []api.Txn{{Read: 3, Reads: spans(single("a"))}, {Read: 3}, {Read: 3, Changes: changes(put("z", "1"))}}},
		{two, api.Txn{Read: 3, Reads: spans(of("f", "h")), Changes: changes(wipe("o", "q"), put("g", "1"), clearOf("a"), wipe("h", "h"), wipe("f", "g"))}, []api.Txn{
			{Read: 3, Reads: spans(of("f", "g")), Changes: changes(clearOf("a"), wipe("f", "g"))},
			{Read: 3, Reads: spans(of("g", "h")), Changes: changes(wipe("o", "p"), put("g", "1"))},
			{Read: 3, Changes: changes(wipe("p", "q"))}}},
		{[]string{"a", "a\x00"}, api.Txn{Reads: spans(all(), single("a")), Changes: changes(clearOf("a"), wipe("", "b"))}, []api.Txn{
			{Reads: spans(of("", "a")), Changes: changes(wipe("", "a"))},
			{Reads: spans(single("a"), single("a")), Changes: changes(clearOf("a"), wipe("a", "a\x00"))},
			{Reads: spans(of("a\x00", last())), Changes: changes(wipe("a\x00", "b"))}}},
		{[]string{high(16)}, api.Txn{Reads: spans(of(high(15), last()))}, []api.Txn{{Reads: spans(of(high(15), high(16)))}, {Reads: spans(of(high(16), last()))}}},
		{[]string{"\x00"}, api.Txn{Reads: spans(of("", "a")), Changes: changes(put("", ""), put("\x00", ""))}, []api.Txn{
			{Reads: spans(of("", "\x00")), Changes: changes(put("", ""))}, {Reads: spans(of("\x00", "a")), Changes: changes(put("\x00", ""))}}},
	} {
		carve(t, c.bounds, c.x, c.want...)
	}
}

func TestCarveFaults(t *testing.T) {
	for _, x := range badTxns() {
		if _, e := frame.PutTxn(x); e != api.ErrForm {
			t.Fatalf("PutTxn(%s): %d", told(x), e)
		}
		for _, b := range bounds() {
			notCarved(t, b, x)
		}
	}
}

// carveRight: is Carve as each piece's ends tell, and does each piece read and change of its keys, and of no others, what the whole transaction does?
func carveRight(t *testing.T, b []string, x api.Txn) {
	t.Helper()
	got, e := Carve(b, x)
	if len(got) != len(b)+1 || e != api.OK {
		t.Fatalf("Carve(%s, %s): %s, %d", told(b), told(x), told(got), e)
	}
	for n, part := range got {
		from, to := ends(b, n)
		want := api.Txn{Read: x.Read, Changes: cutPlain(from, to, x.Changes)}
		for _, s := range x.Reads {
			if max(s.From, from) < min(s.To, to) {
				want.Reads = append(want.Reads, of(max(s.From, from), min(s.To, to)))
			}
		}
		if _, e := frame.PutTxn(part); !same(part, want) || e != api.OK {
			t.Fatalf("Carve(%s, %s): %s, not %s; %d", told(b), told(x), told(part), told(want), e)
		}
		for _, key := range append(points(), "b", "d", "g", "z") {
			here := n == pieceOf(b, key)
			if how(key, part.Reads) != either(here, how(key, x.Reads)) || len(about(key, part.Changes)) != either(here, len(about(key, x.Changes))) {
				t.Fatalf("Carve(%s, %s): %s: of %s", told(b), told(x), told(part), told(key))
			}
		}
	}
}

// how many spans have a key.
func how(key string, list []api.Span) int {
	n := 0
	for _, s := range list {
		if s.From <= key && key < s.To {
			n++
		}
	}
	return n
}

// either: the number, if it is so, else 0.
func either(so bool, n int) int {
	if so {
		return n
	}
	return 0
}

func TestCarvePlain(t *testing.T) {
	var list []api.Span
	for i, from := range points() {
		list = append(list, of(from, from), of(from, last()))
		for _, to := range points()[i+1:] {
			list = append(list, of(from, to))
		}
	}
	for _, b := range bounds() {
		for i, one := range list {
			for j, two := range list {
				carveRight(t, b, api.Txn{Read: i, Reads: spans(one, two), Changes: changes(oneChange()[(i+j)%len(oneChange())])})
			}
		}
		for _, one := range oneChange() {
			carveRight(t, b, api.Txn{Read: 1, Changes: changes(one)})
			carveRight(t, b, api.Txn{Read: math.MaxInt, Reads: spans(all()), Changes: changes(one, put("c", ""), one)})
		}
	}
}

// The greatest transactions that are sound.
func TestCarveMost(t *testing.T) {
	for _, b := range bounds() {
		carveRight(t, b, api.Txn{Read: math.MaxInt, Reads: slices.Repeat(spans(all()), 24), Changes: slices.Repeat(changes(wipe("", last())), 24)})
		carveRight(t, b, api.Txn{Reads: slices.Repeat(spans(of(last(), last())), 24), Changes: slices.Repeat(changes(put(long(16), long(64))), 24)})
		carveRight(t, b, api.Txn{Read: 5, Reads: make([]api.Span, 24), Changes: slices.Repeat(changes(put(high(16), "")), 24)})
	}
}

// Some bounds, changes and transactions, the same ones each time.
func TestPicked(t *testing.T) {
	pick := rand.New(rand.NewPCG(12, 1))
	text := func(least, most int) string {
		b := make([]byte, least+pick.IntN(most-least+1))
		for i := range b {
			b[i] = []byte{0, 1, 'a', 'b', 254, 255}[pick.IntN(6)]
		}
		return string(b)
	}
	two := func() (string, string) {
		a, b := text(0, 1+pick.IntN(17)), text(0, 1+pick.IntN(17))
		return min(a, b), max(a, b)
	}
	for range 20000 {
		var b []string
		for range pick.IntN(8) {
			b = append(b, text(1, 1+pick.IntN(16)))
		}
		slices.Sort(b)
		b = slices.Compact(b)
		x := api.Txn{Read: pick.IntN(100)}
		for range pick.IntN(4) {
			from, to := two()
			x.Reads = append(x.Reads, of(from, to))
		}
		for range pick.IntN(6) {
			from, to := two()
			x.Changes = append(x.Changes, []api.Change{put(text(0, 16), to), clearOf(text(0, 16)), wipe(from, to)}[pick.IntN(3)])
		}
		key := text(0, 20)
		which(t, b, key, pieceOf(b, key))
		spreadRight(t, b, x.Changes)
		carveRight(t, b, x)
	}
}

// Memory

// given: bounds and a transaction whose lists have spare room.
func given() ([]string, api.Txn) {
	b := []string{"g", "p", "q", "r"}
	reads := spans(of("f", "h"), of("a", "z"), of("o", "q"), of("x", "y"))
	list := changes(wipe("f", "h"), put("a", "1"), clearOf("z"), put("g", "2"), wipe("b", "c"))
	return b[:2], api.Txn{Read: 7, Reads: reads[:3], Changes: list[:4]}
}

// isGiven: are they as they were, spare room included?
func isGiven(t *testing.T, b []string, x api.Txn) {
	t.Helper()
	c, y := given()
	if !slices.Equal(b[:4], c[:4]) || !slices.Equal(x.Reads[:4], y.Reads[:4]) || !slices.Equal(x.Changes[:5], y.Changes[:5]) || x.Read != y.Read || len(x.Reads) != 3 || len(x.Changes) != 4 || len(b) != 2 {
		t.Errorf("what was handed in is now %s, %s", told(b[:4]), told(x))
	}
}

// parts, carved: what is answered of what is given.
func parts() [][]api.Change {
	return [][]api.Change{changes(wipe("f", "g"), put("a", "1")), changes(wipe("g", "h"), put("g", "2")), changes(clearOf("z"))}
}

func carved() []api.Txn {
	return []api.Txn{
		{Read: 7, Reads: spans(of("f", "g"), of("a", "g")), Changes: parts()[0]},
		{Read: 7, Reads: spans(of("g", "h"), of("g", "p"), of("o", "p")), Changes: parts()[1]},
		{Read: 7, Reads: spans(of("p", "z"), of("p", "q")), Changes: parts()[2]},
	}
}

// blot turns all of a list, spare room included.
func blot[T any](list []T, x T) {
	list = list[:cap(list)]
	for i := range list {
		list[i] = x
	}
}

// blotted: is all of a list as blot left it?
func blotted[T comparable](list []T, x T) bool {
	return !slices.ContainsFunc(list[:cap(list)], func(y T) bool { return y != x })
}

// What is handed in is not turned; what who gave it does with it then is nothing to the answer.
func TestHandedIn(t *testing.T) {
	b, x := given()
	which(t, b, "h", 1)
	pieceIs(t, b, 1, of("g", "p"))
	isGiven(t, b, x)
	spreadOut, e1 := Spread(b, x.Changes...)
	isGiven(t, b, x)
	carveOut, e2 := Carve(b, x)
	isGiven(t, b, x)
	whole, e3 := Carve(nil, x)
	wholeSpread, e4 := Spread(nil, x.Changes...)
	isGiven(t, b, x)
	if e1 != api.OK || e2 != api.OK || e3 != api.OK || e4 != api.OK {
		t.Fatal(e1, e2, e3, e4)
	}
	blot(b, "!")
	blot(x.Reads, of("!", "!!"))
	blot(x.Changes, put("!", "!"))
	_, y := given()
	if !slices.EqualFunc(spreadOut, parts(), slices.Equal) || !slices.EqualFunc(carveOut, carved(), same) || !slices.EqualFunc(whole, []api.Txn{y}, same) || !slices.Equal(wholeSpread[0], y.Changes) {
		t.Errorf("what was answered is now %s, %s, %s, %s", told(spreadOut), told(carveOut), told(whole), told(wholeSpread))
	}
}

// A refused call turns nothing either.
func TestHandedInRefused(t *testing.T) {
	b, x := given()
	notSpread(t, b, api.ErrArg, append(x.Changes[:4:4], api.Change{})...)
	y := x
	y.Reads = append(x.Reads[:3:3], of("b", "a"))
	notCarved(t, b, y)
	noPiece(t, b, 3, api.ErrArg)
	isGiven(t, b, x)
	bad := []string{"b", "a", "c"}
	which2, e := Which(bad[:2], "a")
	notSpread(t, bad[:2], api.ErrForm, x.Changes...)
	notCarved(t, bad[:2], x)
	noPiece(t, bad[:2], 0, api.ErrForm)
	if isGiven(t, b, x); which2 != 0 || e != api.ErrForm || !slices.Equal(bad, []string{"b", "a", "c"}) {
		t.Errorf("what was handed in is now %q", bad)
	}
}

// What was answered is the caller's: who turns a list of it, spare room included, turns no other one, nor what was given.
func TestAnswers(t *testing.T) {
	b, x := given()
	for n := range 3 {
		one, _ := Spread(b, x.Changes...)
		two, _ := Spread(b, x.Changes...)
		blot(one[n], put("!", "!"))
		want := parts()
		want[n] = slices.Repeat(changes(put("!", "!")), len(want[n]))
		if !slices.EqualFunc(one, want, slices.Equal) || !slices.EqualFunc(two, parts(), slices.Equal) {
			t.Errorf("behind turning %d: %s, %s", n, told(one), told(two))
		}
		blot(one, nil)
		if !slices.EqualFunc(two, parts(), slices.Equal) {
			t.Errorf("behind turning all: %s", told(two))
		}
		isGiven(t, b, x)
	}
	for n := range 3 {
		one, _ := Carve(b, x)
		two, _ := Carve(b, x)
		blot(one[n].Reads, of("!", "!!"))
		blot(one[n].Changes, put("!", "!"))
		for m := range 3 {
			if m != n && !same(one[m], carved()[m]) {
				t.Errorf("behind turning %d: %s", n, told(one))
			}
		}
		blot(one, api.Txn{Read: 99})
		if !slices.EqualFunc(two, carved(), same) {
			t.Errorf("behind turning all: %s", told(two))
		}
		isGiven(t, b, x)
	}
}

// No two lists of an answer, nor of two answers, share any, spare room included.
func TestSpareRoom(t *testing.T) {
	b, x := given()
	carve1, _ := Carve(b, x)
	carve2, _ := Carve(b, x)
	spread1, _ := Spread(b, x.Changes...)
	spread2, _ := Spread(b, x.Changes...)
	var reads [][]api.Span
	lists := append(spread1, spread2...)
	for _, part := range append(carve1, carve2...) {
		reads, lists = append(reads, part.Reads), append(lists, part.Changes)
	}
	for n, list := range reads {
		blot(list, of("", fmt.Sprint(n)))
	}
	for n, list := range lists {
		blot(list, put("!", fmt.Sprint(n)))
	}
	for n, list := range reads {
		if !blotted(list, of("", fmt.Sprint(n))) {
			t.Errorf("Reads %d: %s", n, told(list[:cap(list)]))
		}
	}
	for n, list := range lists {
		if !blotted(list, put("!", fmt.Sprint(n))) {
			t.Errorf("Changes %d: %s", n, told(list[:cap(list)]))
		}
	}
	isGiven(t, b, x)
}

// The same calls answer the same, whatever was asked between them.
func TestAgain(t *testing.T) {
	b, x := given()
	for range 3 {
		for _, other := range bounds() {
			carveRight(t, other, x)
			spreadRight(t, other, x.Changes)
		}
		notCarved(t, badBounds()[0], x)
		notSpread(t, b, api.ErrRange, wipe("b", "a"))
		spread(t, b, x.Changes, parts()...)
		carve(t, b, x, carved()...)
		which(t, b, "h", 1)
		pieceIs(t, b, 2, of("p", last()))
	}
}
