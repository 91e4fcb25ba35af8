package change

import (
	"maps"
	"math"
	"slices"
	"strings"
	"testing"

	"roundhouse/api"
	"roundhouse/span"
)

func set(key, value string) api.Change {
	return api.Change{Kind: api.Put, Key: key, Value: value}
}

func clr(key string) api.Change { return api.Change{Kind: api.Clear, Key: key} }

func rub(from, to string) api.Change { return api.Change{Kind: api.Wipe, Key: from, Value: to} }

func of(from, to string) api.Span { return api.Span{From: from, To: to} }

func pair(key, value string) api.Pair { return api.Pair{Key: key, Value: value} }

// long: a text of so many bytes.
func long(n int) string { return strings.Repeat("k", n) }

// full, over: the longest key; the longest end of a span, which is just behind it.
func full() string { return long(api.MaxKey) }
func over() string { return full() + "\x00" }

// wrong: a change that is not sound, and why.
type wrong struct {
	c api.Change
	e api.Errno
}

func wrongs() []wrong {
	var out []wrong
	for _, kind := range []int{0, -1, 4, 5, math.MaxInt, math.MinInt} {
		out = append(out,
			wrong{api.Change{Kind: kind}, api.ErrArg},
			wrong{api.Change{Kind: kind, Key: "a", Value: "b"}, api.ErrArg},
			wrong{api.Change{Kind: kind, Key: long(1000), Value: long(1000)}, api.ErrArg},
			wrong{api.Change{Kind: kind, Key: "b", Value: "a"}, api.ErrArg})
	}
	for _, c := range []api.Change{
		set(long(17), ""), set(long(17), "1"), set(long(18), long(65)), set("", long(65)), set("a", long(65)), set(full(), long(1000)), set(over(), ""),
		clr(long(17)), clr(long(1000)), clr(over()),
		{Kind: api.Clear, Value: "1"}, {Kind: api.Clear, Key: "a", Value: "\x00"}, {Kind: api.Clear, Key: "a", Value: "b"}, {Kind: api.Clear, Key: long(17), Value: "1"}, {Kind: api.Clear, Key: "a", Value: long(64)},
		rub(long(18), long(18)), rub("a", long(18)), rub("a", "b"+long(17)), rub(long(18), "z"), rub("z"+long(17), "a"), rub("z", "a"+long(17)), rub("a", long(1000)),
	} {
		out = append(out, wrong{c, api.ErrLarge})
	}
	for _, c := range []api.Change{rub("b", "a"), rub("a", ""), rub("a\x00", "a"), rub("\xff", "\xfe\xff"), rub("é", "z"), rub("z"+full(), "z"+full()[1:]), rub(over(), full())} {
		out = append(out, wrong{c, api.ErrRange})
	}
	return out
}

// small: ends of few bytes, some with a neighbour; all changes and pairs of the exhaustive tests lie between them.
func small() []string { return []string{"", "a", "a\x00", "b", "\xff"} }

// changes: all sound ones of ends, of empty spans too.
func changes(ends []string) []api.Change {
	var out []api.Change
	for _, key := range ends {
		out = append(out, set(key, ""), set(key, "1"), clr(key))
		for _, to := range ends {
			if key <= to {
				out = append(out, rub(key, to))
			}
		}
	}
	return out
}

// lists: all of at most three of some changes.
func lists(some []api.Change) [][]api.Change {
	out := [][]api.Change{nil}
	for _, a := range some {
		out = append(out, []api.Change{a})
		for _, b := range some {
			out = append(out, []api.Change{a, b})
			for _, c := range some {
				out = append(out, []api.Change{a, b, c})
			}
		}
	}
	return out
}

// model: what keys are, as plainly as the words have it.
type model map[string]string

func modelOf(pairs []api.Pair) model {
	m := model{}
	for _, p := range pairs {
		m[p.Key] = p.Value
	}
	return m
}

func (m model) does(list []api.Change) model {
	out := maps.Clone(m)
	for _, c := range list {
		switch c.Kind {
		case api.Put:
			out[c.Key] = c.Value
		case api.Clear:
			delete(out, c.Key)
		case api.Wipe:
			maps.DeleteFunc(out, func(key, _ string) bool { return c.Key <= key && key < c.Value })
		}
	}
	return out
}

// pairs: by rising keys.
func (m model) pairs() []api.Pair {
	var out []api.Pair
	for _, key := range slices.Sorted(maps.Keys(m)) {
		out = append(out, pair(key, m[key]))
	}
	return out
}

// worlds: sound pairs to which lists are done: none, some, and all of the keys that the small ends name or have beside them.
func worlds() [][]api.Pair {
	all := model{}
	for i, key := range small() {
		all[key] = string(rune('p' + i))
		all[key+"\x00"], all[key+"\x01"], all[key+"\xff"] = "x", "", "y"
	}
	some := model{"a": "old", "a\x00\x00": "", "b\x00": "z", "c": "1"}
	return [][]api.Pair{nil, some.pairs(), all.pairs()}
}

// rises: are these spans that rise, none empty, none touching the next? (There is one such list for each set of keys, and it has the fewest.)
func rises(list []api.Span) bool {
	for i, s := range list {
		if s.From >= s.To || i > 0 && s.From <= list[i-1].To {
			return false
		}
	}
	return true
}

func hasAny(list []api.Span, key string) bool {
	return slices.ContainsFunc(list, func(s api.Span) bool { return span.Has(s, key) })
}

// fates: of a list, what becomes of the keys beside the small ends: whether one has a value behind, whatever it had, or none, whatever it had.
func fates(list []api.Change, key string) (has, hasNot bool) {
	_, a := model{}.does(list)[key]
	_, b := model{key: "before"}.does(list)[key]
	return a, !b
}

// P4.1

func TestCheckSound(t *testing.T) {
	for _, c := range []api.Change{
		set("", ""), set("a", "1"), set("a\x00", "\x00"), set(full(), long(64)), set(full(), ""), set("", long(64)), set("\xff", "a"), set("b", "a"), set(strings.Repeat("\xff", 16), ""),
		clr(""), clr("a"), clr(full()), clr(strings.Repeat("\x00", 16)),
		rub("", ""), rub("a", "b"), rub("a", "a"), rub("", "\x00"), rub(long(17), long(17)), rub(over(), over()), rub("", long(17)), rub(full(), over()), rub(over(), "z"), rub("a", "a\x00"), rub("z", "\xff"), rub("z", "é"), rub(strings.Repeat("a", 17), strings.Repeat("b", 17)),
	} {
		if e := Check(c); e != api.OK {
			t.Errorf("Check(%#v): %d", c, e)
		}
	}
}

func TestCheckWrong(t *testing.T) {
	for _, w := range wrongs() {
		if e := Check(w.c); e != w.e {
			t.Errorf("Check(%#v): %d, not %d", w.c, e, w.e)
		}
	}
}

func TestCheckLengths(t *testing.T) {
	for key := range 20 {
		for value := range 70 {
			for kind, want := range map[int]bool{api.Put: key <= 16 && value <= 64, api.Clear: key <= 16 && value == 0, api.Wipe: key <= 17 && value <= 17} {
				c := api.Change{Kind: kind, Key: strings.Repeat("a", key), Value: strings.Repeat("b", value)}
				if kind == api.Wipe && value == 0 {
					c.Key = ""
					want = true
				}
				if e := Check(c); (e == api.OK) != want || !want && e != api.ErrLarge {
					t.Errorf("Check, kind %d, %d and %d bytes: %d", kind, key, value, e)
				}
			}
		}
	}
}

// calls: those that answer Check's first error of a list, and whether they answer nothing beside it.
func calls(list ...api.Change) map[string]func() (bool, api.Errno) {
	return map[string]func() (bool, api.Errno){
		"Apply": func() (bool, api.Errno) {
			out, e := Apply([]api.Pair{pair("a", "1")}, list...)
			return len(out) == 0, e
		},
		"Apply, to pairs that are not sound": func() (bool, api.Errno) {
			out, e := Apply([]api.Pair{pair("b", ""), pair("a", "")}, list...)
			return len(out) == 0, e
		},
		"Spans":                   func() (bool, api.Errno) { out, e := Spans(list...); return len(out) == 0, e },
		"Least":                   func() (bool, api.Errno) { out, e := Least(list...); return len(out) == 0, e },
		"Cut":                     func() (bool, api.Errno) { out, e := Cut(of("", "\xff"), list...); return len(out) == 0, e },
		"Cut, to a span of none":  func() (bool, api.Errno) { out, e := Cut(api.Span{}, list...); return len(out) == 0, e },
		"Cut, to too long a span": func() (bool, api.Errno) { out, e := Cut(of("", long(18)), list...); return len(out) == 0, e },
	}
}

func TestFirstError(t *testing.T) {
	sound := []api.Change{set("a", "1"), clr("b"), rub("c", "d"), rub("e", "e")}
	for _, w := range wrongs() {
		for at := range len(sound) + 1 {
			for name, call := range calls(slices.Insert(slices.Clone(sound), at, w.c)...) {
				if none, e := call(); !none || e != w.e {
					t.Errorf("%s, of %#v at %d: %d, not %d", name, w.c, at, e, w.e)
				}
			}
		}
	}
	large, wide, none := set(long(17), ""), rub("b", "a"), api.Change{}
	for _, list := range [][]api.Change{{large, wide, none}, {wide, none, large}, {none, large, wide}} {
		for name, call := range calls(slices.Insert(slices.Clone(list), 0, sound...)...) {
			if none, e := call(); !none || e != Check(list[0]) {
				t.Errorf("%s: %d, not %d", name, e, Check(list[0]))
			}
		}
	}
}

// P4.2

func TestApply(t *testing.T) {
	abd := []api.Pair{pair("a", "1"), pair("b", "2"), pair("d", "4")}
	for i, c := range []struct {
		pairs []api.Pair
		list  []api.Change
		want  []api.Pair
	}{
		{nil, nil, nil},
		{[]api.Pair{}, []api.Change{}, nil},
		{abd, nil, abd},
		{nil, []api.Change{set("a", "1")}, []api.Pair{pair("a", "1")}},
		{nil, []api.Change{set("", "")}, []api.Pair{pair("", "")}},
		{nil, []api.Change{clr("a"), rub("", "\xff")}, nil},
		{nil, []api.Change{set("b", "1"), set("a", "2"), set("c", "3")}, []api.Pair{pair("a", "2"), pair("b", "1"), pair("c", "3")}},
		{abd, []api.Change{set("c", "3")}, []api.Pair{pair("a", "1"), pair("b", "2"), pair("c", "3"), pair("d", "4")}},
		{abd, []api.Change{set("b", "3")}, []api.Pair{pair("a", "1"), pair("b", "3"), pair("d", "4")}},
		{abd, []api.Change{set("b", "")}, []api.Pair{pair("a", "1"), pair("b", ""), pair("d", "4")}},
		{abd, []api.Change{set("b", "3"), set("b", "4")}, []api.Pair{pair("a", "1"), pair("b", "4"), pair("d", "4")}},
		{abd, []api.Change{set("e", "5")}, []api.Pair{pair("a", "1"), pair("b", "2"), pair("d", "4"), pair("e", "5")}},
		{abd, []api.Change{set("", "0")}, []api.Pair{pair("", "0"), pair("a", "1"), pair("b", "2"), pair("d", "4")}},
		{abd, []api.Change{clr("b")}, []api.Pair{pair("a", "1"), pair("d", "4")}},
		{abd, []api.Change{clr("c"), clr(""), clr("\xff"), clr("a\x00")}, abd},
		{abd, []api.Change{clr("a"), clr("b"), clr("d")}, nil},
		{abd, []api.Change{clr("a"), set("a", "2")}, []api.Pair{pair("a", "2"), pair("b", "2"), pair("d", "4")}},
		{abd, []api.Change{set("a", "2"), clr("a")}, abd[1:]},
		{abd, []api.Change{rub("a", "b")}, abd[1:]},
		{abd, []api.Change{rub("a\x00", "d")}, []api.Pair{pair("a", "1"), pair("d", "4")}},
		{abd, []api.Change{rub("b", "b"), rub("a", "a"), rub("\xff", "\xff")}, abd},
		{abd, []api.Change{rub("", "\xff")}, nil},
		{abd, []api.Change{rub("b", "\xff")}, abd[:1]},
		{abd, []api.Change{rub("a", "z"), set("b", "5")}, []api.Pair{pair("b", "5")}},
		{abd, []api.Change{set("b", "5"), rub("a", "z")}, nil},
		{[]api.Pair{pair(full(), long(64))}, []api.Change{rub(over(), "z")}, []api.Pair{pair(full(), long(64))}},
		{[]api.Pair{pair(full(), long(64))}, []api.Change{rub(full(), over())}, nil},
		{[]api.Pair{pair("", ""), pair(full(), "")}, []api.Change{set(full(), long(64)), clr("")}, []api.Pair{pair(full(), long(64))}},
	} {
		if got, e := Apply(c.pairs, c.list...); e != api.OK || !slices.Equal(got, c.want) {
			t.Errorf("%d: Apply: %#v, %d, not %#v", i, got, e, c.want)
		}
	}
}

func TestApplyNotSound(t *testing.T) {
	for _, pairs := range [][]api.Pair{
		{pair("b", "1"), pair("a", "2")},
		{pair("a", "1"), pair("a", "1")},
		{pair("a", "1"), pair("a", "2")},
		{pair("", ""), pair("", "")},
		{pair("a\x00", ""), pair("a", "")},
		{pair("a", ""), pair("c", ""), pair("b", "")},
		{pair("a", ""), pair("b", ""), pair("b", "")},
		{pair("é", ""), pair("z", "")},
		{pair("", ""), pair("z", ""), pair("a", ""), pair("b", "")},
		{pair(long(17), "")},
		{pair(over(), "")},
		{pair("a", long(65))},
		{pair("a", ""), pair("b", long(65))},
		{pair("a", ""), pair("b"+full(), "")},
		{pair(long(1000), long(1000))},
	} {
		for _, list := range [][]api.Change{nil, {rub("", "\xff")}, {set("a", "1"), clr("b")}} {
			if got, e := Apply(pairs, list...); e != api.ErrForm || len(got) != 0 {
				t.Errorf("Apply(%#v, %#v): %#v, %d", pairs, list, got, e)
			}
		}
	}
}

func TestApplyAll(t *testing.T) {
	for _, list := range lists(changes(small())) {
		for _, pairs := range worlds() {
			got, e := Apply(pairs, list...)
			if want := modelOf(pairs).does(list).pairs(); e != api.OK || !slices.Equal(got, want) {
				t.Fatalf("Apply(%#v, %#v): %#v, %d, not %#v", pairs, list, got, e, want)
			}
		}
	}
}

func TestApplyMany(t *testing.T) {
	var list []api.Change
	keys := []string{"c", "m", "a\x00", "x", "", "é", full()}
	for i := range 500 {
		key, other := keys[i*i%7]+string([]byte{byte(i * 37)}), keys[i%5]
		list = append(list, set(key[max(0, len(key)-16):], string(rune('0'+i%10))))
		switch i % 7 {
		case 3:
			list = append(list, clr(other))
		case 5:
			list = append(list, rub(other, other+string([]byte{byte(i)})))
		}
		if got, e := Apply(nil, list...); e != api.OK || !slices.Equal(got, model{}.does(list).pairs()) {
			t.Fatalf("Apply, of %d: %#v, %d", len(list), got, e)
		}
	}
}

// P4.3

func TestSpans(t *testing.T) {
	for i, c := range []struct {
		list []api.Change
		want []api.Span
	}{
		{nil, nil},
		{[]api.Change{set("a", "1")}, []api.Span{of("a", "a\x00")}},
		{[]api.Change{set("", "")}, []api.Span{of("", "\x00")}},
		{[]api.Change{clr("a")}, []api.Span{of("a", "a\x00")}},
		{[]api.Change{set("a", "z")}, []api.Span{of("a", "a\x00")}},
		{[]api.Change{rub("a", "z")}, []api.Span{of("a", "z")}},
		{[]api.Change{rub("a", "a"), rub("", ""), rub(long(17), long(17))}, nil},
		{[]api.Change{set("a", "1"), clr("a"), set("a", "2")}, []api.Span{of("a", "a\x00")}},
		{[]api.Change{set("b", ""), clr("a")}, []api.Span{of("a", "a\x00"), of("b", "b\x00")}},
		{[]api.Change{set("a\x00", ""), clr("a")}, []api.Span{of("a", "a\x00\x00")}},
		{[]api.Change{rub("c", "e"), rub("a", "b"), rub("b", "c")}, []api.Span{of("a", "e")}},
		{[]api.Change{rub("c", "e"), rub("a", "b")}, []api.Span{of("a", "b"), of("c", "e")}},
		{[]api.Change{rub("a", "m"), set("b", ""), clr("c"), rub("c", "d")}, []api.Span{of("a", "m")}},
		{[]api.Change{rub("a", "m"), set("m", "")}, []api.Span{of("a", "m\x00")}},
		{[]api.Change{rub("a", "m"), set("m\x00", "")}, []api.Span{of("a", "m"), of("m\x00", "m\x00\x00")}},
		{[]api.Change{set(full(), ""), rub(over(), "z")}, []api.Span{of(full(), "z")}},
		{[]api.Change{clr(full())}, []api.Span{of(full(), over())}},
	} {
		if got, e := Spans(c.list...); e != api.OK || !slices.Equal(got, c.want) {
			t.Errorf("%d: Spans: %#v, %d, not %#v", i, got, e, c.want)
		}
	}
}

func TestSpansAll(t *testing.T) {
	all := worlds()[2]
	for _, list := range lists(changes(small())) {
		got, e := Spans(list...)
		if e != api.OK || !rises(got) {
			t.Fatalf("Spans(%#v): %#v, %d", list, got, e)
		}
		for _, p := range all {
			if has, hasNot := fates(list, p.Key); hasAny(got, p.Key) != (has || hasNot) {
				t.Fatalf("Spans(%#v): %#v, which is wrong of %#v", list, got, p.Key)
			}
		}
	}
}

func TestWeight(t *testing.T) {
	for i, c := range []struct {
		list []api.Change
		want int
	}{
		{nil, 0},
		{[]api.Change{}, 0},
		{[]api.Change{set("", "")}, 8},
		{[]api.Change{set("a", "")}, 9},
		{[]api.Change{set("", "1")}, 9},
		{[]api.Change{set("ab", "123")}, 13},
		{[]api.Change{set("ab", "123"), set("ab", "123")}, 26},
		{[]api.Change{clr("abc")}, 11},
		{[]api.Change{rub("a", "bc")}, 11},
		{[]api.Change{rub("a", "a")}, 10},
		{[]api.Change{set("é", "\xff\x00")}, 12},
		{[]api.Change{set(full(), long(64))}, 88},
		{[]api.Change{set("a", "1"), clr("b"), rub("c", "d"), rub("", "")}, 37},
		{slices.Repeat([]api.Change{set("a", "12")}, 1000), 11000},
		// what is not sound weighs, too
		{[]api.Change{{}}, 8},
		{[]api.Change{{Kind: -1, Key: "a", Value: "bc"}}, 11},
		{[]api.Change{{Kind: 4}, set(long(1000), long(2000)), rub("b", "a"), {Kind: api.Clear, Value: "1"}}, 3035},
	} {
		if got := Weight(c.list...); got != c.want {
			t.Errorf("%d: Weight: %d, not %d", i, got, c.want)
		}
	}
}

func TestWeightOfVeryMany(t *testing.T) {
	for _, c := range []struct {
		sum  int
		list []int
		want int
	}{
		{0, nil, 0},
		{5, []int{1, 2, 3}, 11},
		{math.MaxInt - 10, []int{8, 1, 1}, math.MaxInt},
		{math.MaxInt - 10, []int{8, 1, 0}, math.MaxInt - 1},
		{math.MaxInt - 10, []int{8, 2, 1}, math.MaxInt},
		{math.MaxInt - 10, []int{8, 1 << 40, 0}, math.MaxInt},
		{math.MaxInt - 7, []int{8, 0, 0}, math.MaxInt},
		{math.MaxInt, []int{0}, math.MaxInt},
		{math.MaxInt, []int{8, 1, 1}, math.MaxInt},
		{math.MaxInt, []int{math.MaxInt}, math.MaxInt},
	} {
		if got := add(c.sum, c.list...); got != c.want {
			t.Errorf("add(%d, %d): %d", c.sum, c.list, got)
		}
	}
}

// P4.4

func TestLeast(t *testing.T) {
	for i, c := range []struct{ list, want []api.Change }{
		{nil, nil},
		{[]api.Change{set("a", "1")}, []api.Change{set("a", "1")}},
		{[]api.Change{set("a", "1"), set("a", "2")}, []api.Change{set("a", "2")}},
		{[]api.Change{set("b", "1"), set("a", "2"), set("", "")}, []api.Change{set("", ""), set("a", "2"), set("b", "1")}},
		{[]api.Change{clr("a")}, []api.Change{clr("a")}},
		{[]api.Change{set("a", "1"), clr("a")}, []api.Change{clr("a")}},
		{[]api.Change{clr("a"), set("a", "1")}, []api.Change{set("a", "1")}},
		{[]api.Change{clr("b"), clr("a"), clr("a")}, []api.Change{clr("a"), clr("b")}},
		{[]api.Change{clr("a"), clr("a\x00")}, []api.Change{rub("a", "a\x00\x00")}},
		{[]api.Change{rub("a", "a")}, nil},
		{[]api.Change{rub("a", "a\x00")}, []api.Change{clr("a")}},
		{[]api.Change{rub("", "\x00")}, []api.Change{clr("")}},
		{[]api.Change{rub("a", "a\x01")}, []api.Change{rub("a", "a\x01")}},
		{[]api.Change{rub("a", "a\x00\x00")}, []api.Change{rub("a", "a\x00\x00")}},
		{[]api.Change{rub("a", "b")}, []api.Change{rub("a", "b")}},
		{[]api.Change{rub("b", "c"), rub("a", "b")}, []api.Change{rub("a", "c")}},
		{[]api.Change{rub("c", "d"), rub("a", "b")}, []api.Change{rub("a", "b"), rub("c", "d")}},
		{[]api.Change{set("b", "1"), rub("a", "c")}, []api.Change{rub("a", "c")}},
		{[]api.Change{set("b", "1"), rub("a", "b")}, []api.Change{rub("a", "b"), set("b", "1")}},
		{[]api.Change{rub("a", "c"), set("b", "1")}, []api.Change{rub("a", "b"), rub("b\x00", "c"), set("b", "1")}},
		{[]api.Change{rub("a", "c"), set("a", "1")}, []api.Change{rub("a\x00", "c"), set("a", "1")}},
		{[]api.Change{rub("a", "a\x00\x00"), set("a", "1")}, []api.Change{clr("a\x00"), set("a", "1")}},
		{[]api.Change{rub("a", "a\x00\x00"), set("a\x00", "1")}, []api.Change{clr("a"), set("a\x00", "1")}},
		{[]api.Change{rub("a", "a\x00"), set("a", "1")}, []api.Change{set("a", "1")}},
		{[]api.Change{clr("z"), set("a", "1")}, []api.Change{clr("z"), set("a", "1")}},
		{[]api.Change{rub("a", "c"), set("b", "1"), clr("b")}, []api.Change{rub("a", "c")}},
		{[]api.Change{set("m", "1"), rub("a", "z"), set("n", "2"), set("c", "3"), clr("n")}, []api.Change{rub("a", "c"), rub("c\x00", "z"), set("c", "3")}},
		// the longest keys
		{[]api.Change{rub(full(), over())}, []api.Change{clr(full())}},
		{[]api.Change{clr(full())}, []api.Change{clr(full())}},
		{[]api.Change{rub(full(), "z"), set(full(), "1")}, []api.Change{rub(over(), "z"), set(full(), "1")}},
		{[]api.Change{rub("a", over()), set(full(), "1")}, []api.Change{rub("a", full()), set(full(), "1")}},
		{[]api.Change{rub(over(), full()+"\x01")}, []api.Change{rub(over(), full()+"\x01")}},
		{[]api.Change{rub(full()[1:], full()[1:]+"\x00")}, []api.Change{clr(full()[1:])}},
		{[]api.Change{rub(full()[1:], over()[1:]+"\x00"), set(full()[1:], "")}, []api.Change{clr(over()[1:]), set(full()[1:], "")}},
	} {
		if got, e := Least(c.list...); e != api.OK || !slices.Equal(got, c.want) {
			t.Errorf("%d: Least: %#v, %d, not %#v", i, got, e, c.want)
		}
	}
}

// leastOf: what Least has to answer of a list, by the fates of keys at the ends and just behind them; nothing lies between those.
func leastOf(list []api.Change, ends []string) []api.Change {
	var gone []api.Span
	var puts []api.Change
	points := slices.Clone(ends)
	for _, end := range ends {
		points = append(points, end+"\x00")
	}
	slices.Sort(points)
	points = append(slices.Compact(points), "\xff\xff")
	for i, key := range points[:len(points)-1] {
		switch has, hasNot := fates(list, key); {
		case has:
			puts = append(puts, set(key, model{}.does(list)[key]))
		case hasNot && len(gone) > 0 && gone[len(gone)-1].To == key:
			gone[len(gone)-1].To = points[i+1]
		case hasNot:
			gone = append(gone, of(key, points[i+1]))
		}
	}
	var out []api.Change
	for _, s := range gone {
		if s.To == s.From+"\x00" {
			out = append(out, clr(s.From))
			continue
		}
		out = append(out, rub(s.From, s.To))
	}
	return append(out, puts...)
}

func TestLeastAll(t *testing.T) {
	for _, list := range lists(changes(small())) {
		got, e := Least(list...)
		if want := leastOf(list, small()); e != api.OK || !slices.Equal(got, want) {
			t.Fatalf("Least(%#v): %#v, %d, not %#v", list, got, e, want)
		}
		for _, pairs := range worlds() {
			if !maps.Equal(modelOf(pairs).does(got), modelOf(pairs).does(list)) {
				t.Fatalf("Least(%#v): %#v, which does other things to %#v", list, got, pairs)
			}
		}
		if again, e := Least(got...); e != api.OK || !slices.Equal(again, got) {
			t.Fatalf("Least(%#v): %#v, %d", got, again, e)
		}
	}
}

func TestCut(t *testing.T) {
	list := []api.Change{set("c", "1"), rub("a", "z"), clr("b"), set("c", "2"), rub("b", "b"), rub("x", "y"), clr("c"), set("a", "3"), rub("c", "c\x00")}
	for i, c := range []struct {
		s          api.Span
		list, want []api.Change
	}{
		{of("", "\xff"), nil, nil},
		{of("", "\xff"), list, slices.Delete(slices.Clone(list), 4, 5)},
		{of("", ""), list, nil},
		{of("c", "c"), list, nil},
		{of("z", "a"), list, nil},
		{of("b", "c"), list, []api.Change{rub("b", "c"), clr("b")}},
		{of("c", "d"), list, []api.Change{set("c", "1"), rub("c", "d"), set("c", "2"), clr("c"), rub("c", "c\x00")}},
		{of("c", "c\x00"), list, []api.Change{set("c", "1"), rub("c", "c\x00"), set("c", "2"), clr("c"), rub("c", "c\x00")}},
		{of("c\x00", "d"), list, []api.Change{rub("c\x00", "d")}},
		{of("m", "x"), list, []api.Change{rub("m", "x")}},
		{of("m", "x\x00"), list, []api.Change{rub("m", "x\x00"), rub("x", "x\x00")}},
		{of("y", "\xff"), list, []api.Change{rub("y", "z")}},
		{of("z", "\xff"), list, nil},
		{of("", "a"), list, nil},
		{of("", "a\x00"), list, []api.Change{rub("a", "a\x00"), set("a", "3")}},
		{of("", "\x00"), []api.Change{set("", "1"), clr(""), rub("", "a"), set("\x00", "")}, []api.Change{set("", "1"), clr(""), rub("", "\x00")}},
		{of(long(17), long(17)), list, nil},
		{of("", long(17)), []api.Change{set(full(), "1"), rub(full(), "z"), clr("l")}, []api.Change{set(full(), "1"), rub(full(), long(17))}},
		{of(over(), "z"), []api.Change{set(full(), "1"), rub(full(), "z"), clr("l")}, []api.Change{rub(over(), "z"), clr("l")}},
		{of(long(17), "z"), []api.Change{rub("", long(17))}, nil},
	} {
		if got, e := Cut(c.s, c.list...); e != api.OK || !slices.Equal(got, c.want) {
			t.Errorf("%d: Cut: %#v, %d, not %#v", i, got, e, c.want)
		}
	}
}

func TestCutLarge(t *testing.T) {
	for _, s := range []api.Span{of("", long(18)), of(long(18), ""), of(long(18), "z"), of(long(18), long(18)), of("z", long(1000)), of(over()+"\x00", ""), of("", over()+"\x00")} {
		for _, list := range [][]api.Change{nil, {set("a", "1"), rub("", "\xff")}} {
			if got, e := Cut(s, list...); e != api.ErrLarge || len(got) != 0 {
				t.Errorf("Cut(%#v, %#v): %#v, %d", s, list, got, e)
			}
		}
	}
	for _, s := range []api.Span{of("", long(17)), of(long(17), ""), of(long(17), long(17)), of(over(), over()), of(over(), "")} {
		if _, e := Cut(s, set("a", "1")); e != api.OK {
			t.Errorf("Cut(%#v): %d", s, e)
		}
	}
}

// cutOf: what Cut has to answer.
func cutOf(s api.Span, list []api.Change) []api.Change {
	var out []api.Change
	for _, c := range list {
		if c.Kind == api.Wipe {
			c.Key, c.Value = max(c.Key, s.From), min(c.Value, s.To)
			if c.Key < c.Value {
				out = append(out, c)
			}
		} else if s.From <= c.Key && c.Key < s.To {
			out = append(out, c)
		}
	}
	return out
}

func TestCutAll(t *testing.T) {
	all := worlds()[2]
	for _, list := range lists(changes([]string{"", "a", "a\x00", "b"})) {
		for _, from := range small() {
			for _, to := range small() {
				s := of(from, to)
				got, e := Cut(s, list...)
				if e != api.OK || !slices.Equal(got, cutOf(s, list)) {
					t.Fatalf("Cut(%#v, %#v): %#v, %d", s, list, got, e)
				}
			}
		}
	}
	for _, c := range changes(small()) {
		for _, d := range changes(small()) {
			list, s := []api.Change{c, d}, of("a", "b")
			cut, _ := Cut(s, list...)
			outside := func(key, _ string) bool { return !span.Has(s, key) }
			was, now := modelOf(all).does(list), modelOf(all).does(cut)
			maps.DeleteFunc(was, outside)
			maps.DeleteFunc(now, outside)
			if !maps.Equal(was, now) {
				t.Fatalf("Cut(%#v, %#v): %#v, which does other things", s, list, cut)
			}
		}
	}
}

// R4, R5

func TestArgumentsStand(t *testing.T) {
	mark := func() []api.Change {
		return []api.Change{set("c", "1"), rub("a", "z"), clr("b"), set("d", "2"), rub("d", "e"), set("spare", "1"), set("spare", "2"), set("spare", "3")}
	}
	pairs := func() []api.Pair {
		return []api.Pair{pair("a", "1"), pair("b", "2"), pair("z", "3"), pair("spare", "1"), pair("spare", "2"), pair("spare", "3")}
	}
	list, was := mark(), pairs()
	for i, call := range []func(){
		func() { Apply(was[:3], list[:5]...) },
		func() { Apply(was[:3], list[3:4]...) },
		func() { Apply(was[:3]) },
		func() { Spans(list[:5]...) },
		func() { Weight(list[:5]...) },
		func() { Least(list[:5]...) },
		func() { Cut(of("b", "d"), list[:5]...) },
	} {
		call()
		if !slices.Equal(list, mark()) || !slices.Equal(was, pairs()) {
			t.Fatalf("call %d changed what it was given: %#v, %#v", i, list, was)
		}
	}
}

// spoil: a list's memory is written over, its spare room too.
func spoil[T any](list []T) {
	clear(list[:cap(list)])
}

func TestAnswersAreNew(t *testing.T) {
	list := []api.Change{set("c", "1"), clr("x"), set("d", "2"), rub("e", "f"), set("spare", "")}[:4]
	was := []api.Pair{pair("a", "1"), pair("b", "2"), pair("spare", "")}[:2]
	for range 2 {
		some, _ := Apply(was, list...)
		same, _ := Apply(was)
		spans, _ := Spans(list...)
		least, _ := Least(list...)
		cut, _ := Cut(of("", "\xff"), list...)
		if len(some) != 4 || len(same) != 2 || len(spans) != 4 || len(least) != 4 || len(cut) != 4 {
			t.Fatalf("%#v, %#v, %#v, %#v, %#v", some, same, spans, least, cut)
		}
		spoil(some)
		spoil(same)
		spoil(spans)
		spoil(least)
		spoil(cut)
		if list[0] != set("c", "1") || list[:5][4] != set("spare", "") || was[0] != pair("a", "1") || was[:3][2] != pair("spare", "") {
			t.Fatalf("an answer shares memory with what was handed in: %#v, %#v", list, was)
		}
	}
}
