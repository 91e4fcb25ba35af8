package past

import (
	"fmt"
	"maps"
	"math"
	"math/rand/v2"
	"slices"
	"strings"
	"testing"

	"roundhouse/api"
	"roundhouse/change"
)

func put(key, value string) api.Change { return api.Change{Kind: api.Put, Key: key, Value: value} }

func clearOf(key string) api.Change { return api.Change{Kind: api.Clear, Key: key} }

func wipe(from, to string) api.Change { return api.Change{Kind: api.Wipe, Key: from, Value: to} }

func of(from, to string) api.Span { return api.Span{From: from, To: to} }

// all: the span of all keys that a change can put, and of some more.
func all() api.Span { return of("", strings.Repeat("\xff", api.MaxKey+2)) }

// pairs: of a key and a value each.
func pairs(list ...string) []api.Pair {
	var out []api.Pair
	for i := 0; i < len(list); i += 2 {
		out = append(out, api.Pair{Key: list[i], Value: list[i+1]})
	}
	return out
}

// long: so many bytes.
func long(n int) string { return strings.Repeat("k", n) }

// errs: a call's answer, and what it has to be.
func errs(t *testing.T, what string, e, want api.Errno) {
	t.Helper()
	if e != want {
		t.Errorf("%s: %d, not %d", what, e, want)
	}
}

// from: one of these pairs, at that version.
func from(t *testing.T, version int, list ...string) *Past {
	t.Helper()
	p, e := From(version, pairs(list...))
	if p == nil || e != api.OK {
		t.Fatalf("From(%d, %q): %v, %d", version, list, p, e)
	}
	return p
}

func add(t *testing.T, p *Past, version int, want api.Errno, list ...api.Change) {
	t.Helper()
	errs(t, fmt.Sprintf("Add(%d, %v)", version, list), p.Add(version, list...), want)
}

func forget(t *testing.T, p *Past, version int, want api.Errno) {
	t.Helper()
	errs(t, fmt.Sprintf("Forget(%d)", version), p.Forget(version), want)
}

func back(t *testing.T, p *Past, version int, want api.Errno) {
	t.Helper()
	errs(t, fmt.Sprintf("Back(%d)", version), p.Back(version), want)
}

func ends(t *testing.T, p *Past, first, last int) {
	t.Helper()
	if a, b := p.Ends(); a != first || b != last {
		t.Errorf("Ends: %d, %d, not %d, %d", a, b, first, last)
	}
}

// has: at that version the key has this value.
func has(t *testing.T, p *Past, key string, version int, want string) {
	t.Helper()
	if v, ok, e := p.Get(key, version); v != want || !ok || e != api.OK {
		t.Errorf("Get(%q, %d): %q, %v, %d, not %q", key, version, v, ok, e, want)
	}
}

// lacks: at that version the keys have no value.
func lacks(t *testing.T, p *Past, version int, keys ...string) {
	t.Helper()
	for _, key := range keys {
		if v, ok, e := p.Get(key, version); v != "" || ok || e != api.OK {
			t.Errorf("Get(%q, %d): %q, %v, %d, not none", key, version, v, ok, e)
		}
	}
}

// lists: these are the first most pairs of a span.
func lists(t *testing.T, p *Past, s api.Span, version, most int, want ...string) {
	t.Helper()
	if l, e := p.List(s, version, most); !slices.Equal(l, pairs(want...)) || e != api.OK {
		t.Errorf("List(%q, %d, %d): %q, %d, not %q", s, version, most, l, e, want)
	}
}

// is: at that version these are all pairs, by Get too.
func is(t *testing.T, p *Past, version int, want ...string) {
	t.Helper()
	lists(t, p, all(), version, math.MaxInt, want...)
	for _, x := range pairs(want...) {
		has(t, p, x.Key, version, x.Value)
	}
}

// refused: what is asked of that version is answered so.
func refused(t *testing.T, p *Past, version int, want api.Errno) {
	t.Helper()
	for _, key := range []string{"", "a", "b", long(api.MaxKey + 1)} {
		if v, ok, e := p.Get(key, version); v != "" || ok || e != want {
			t.Errorf("Get(%q, %d): %q, %v, %d, not %d", key, version, v, ok, e, want)
		}
	}
	for _, s := range []api.Span{all(), of("a", "b"), of("", ""), of("b", "a")} {
		for _, most := range []int{math.MinInt, -1, 0, 1, math.MaxInt} { // ErrArg is the last one that is asked
			if l, e := p.List(s, version, most); l != nil || e != want {
				t.Errorf("List(%q, %d, %d): %q, %d, not %d", s, version, most, l, e, want)
			}
		}
	}
}

// beyond: what is asked of versions outside these two.
func beyond(t *testing.T, p *Past, first, last int) {
	t.Helper()
	ends(t, p, first, last)
	for _, by := range []int{1, 2, 1000} {
		refused(t, p, first-by, api.ErrOld)
		back(t, p, first-by, api.ErrOld)
		if last <= math.MaxInt-by {
			refused(t, p, last+by, api.ErrNew)
			back(t, p, last+by, api.ErrNew)
			forget(t, p, last+by, api.ErrNew)
		}
	}
	refused(t, p, math.MinInt, api.ErrOld)
	back(t, p, math.MinInt, api.ErrOld)
	if last < math.MaxInt {
		refused(t, p, math.MaxInt, api.ErrNew)
		back(t, p, math.MaxInt, api.ErrNew)
		forget(t, p, math.MaxInt, api.ErrNew)
	}
	ends(t, p, first, last)
}

// grown: one that has many things done to it, at 10, 20, 30 and 40, from 5 on.
func grown(t *testing.T) *Past {
	t.Helper()
	p := from(t, 5, "", "0", "a", "1", "b", "2", "d", "4")
	add(t, p, 10, api.OK, put("c", "3"), clearOf("a"))
	add(t, p, 20, api.OK, wipe("b", "d"), put("a", ""))
	add(t, p, 30, api.OK)
	add(t, p, 40, api.OK, put("a", "x"), put("d", "y"), clearOf(""))
	return p
}

// grownAt: what keys of grown are at a version.
func grownAt(version int) []string {
	switch {
	case version < 10:
		return []string{"", "0", "a", "1", "b", "2", "d", "4"}
	case version < 20:
		return []string{"", "0", "b", "2", "c", "3", "d", "4"}
	case version < 40:
		return []string{"", "0", "a", "", "d", "4"}
	}
	return []string{"a", "x", "d", "y"}
}

// isGrown: is it as grown is, from the one version to the other?
func isGrown(t *testing.T, p *Past, first, last int) {
	t.Helper()
	beyond(t, p, first, last)
	for version := first; version <= last; version++ {
		is(t, p, version, grownAt(version)...)
	}
}

// P10.1

func TestNew(t *testing.T) {
	p := New()
	if p == nil {
		t.Fatal("New: nil")
	}
	beyond(t, p, 0, 0)
	is(t, p, 0)
	lacks(t, p, 0, "", "a", long(api.MaxKey), long(api.MaxKey+1))
	forget(t, p, 0, api.OK)
	back(t, p, 0, api.OK)
	beyond(t, p, 0, 0)
	add(t, p, 0, api.ErrOrder, put("a", "1"))
	add(t, p, 1, api.OK, put("a", "1"))
	is(t, p, 0)
	is(t, p, 1, "a", "1")
}

func TestNil(t *testing.T) {
	var p *Past
	ends(t, p, 0, 0)
	for _, version := range []int{math.MinInt, -1, 0, 1, math.MaxInt} {
		add(t, p, version, api.ErrArg)
		add(t, p, version, api.ErrArg, put("a", "1"))
		add(t, p, version, api.ErrArg, api.Change{Kind: 9})
		refused(t, p, version, api.ErrArg)
		forget(t, p, version, api.ErrArg)
		back(t, p, version, api.ErrArg)
	}
	ends(t, p, 0, 0)
}

// One that neither New nor From made is like one that New made.
func TestWithoutNew(t *testing.T) {
	p := new(Past)
	beyond(t, p, 0, 0)
	is(t, p, 0)
	add(t, p, 3, api.OK, put("a", "1"))
	is(t, p, 2)
	is(t, p, 3, "a", "1")
}

func TestFrom(t *testing.T) {
	for _, version := range []int{0, 1, 5, api.Window, api.Last, math.MaxInt - 1, math.MaxInt} {
		for _, list := range [][]string{
			nil,
			{"", ""},
			{"", "0"},
			{"a", "1"},
			{"", "0", "\x00", "", "a", "1", "a\x00", "2", "b", "", "\xff", "3"},
			{long(api.MaxKey), long(api.MaxValue)},
			{strings.Repeat("\x00", api.MaxKey), "", strings.Repeat("\xff", api.MaxKey), strings.Repeat("\xff", api.MaxValue)},
		} {
			p := from(t, version, list...)
			beyond(t, p, version, version)
			is(t, p, version, list...)
			lacks(t, p, version, "x", "a\x01", "\xfe", long(api.MaxKey+1), long(api.MaxKey-1))
			add(t, p, version, api.ErrOrder, put("x", ""))
			add(t, p, version-1, api.ErrOrder, put("x", ""))
			forget(t, p, version, api.OK)
			back(t, p, version, api.OK)
			is(t, p, version, list...)
		}
	}
}

// With no pairs, nil or not.
func TestFromNothing(t *testing.T) {
	for _, list := range [][]api.Pair{nil, {}, pairs("a", "1")[:0]} {
		p, e := From(7, list)
		if p == nil || e != api.OK {
			t.Fatalf("From: %v, %d", p, e)
		}
		beyond(t, p, 7, 7)
		is(t, p, 7)
		lacks(t, p, 7, "", "a")
	}
}

// unsound: pairs that are none.
func unsound() [][]string {
	return [][]string{
		{"a", "1", "a", "1"},
		{"a", "1", "a", "2"},
		{"", "", "", ""},
		{"b", "", "a", ""},
		{"a", "", "", ""},
		{"a", "", "c", "", "b", ""},
		{"c", "", "a", "", "b", ""},
		{"a\x00", "", "a", ""},
		{"\xff", "", "z", ""},
		{"é", "", "z", ""},
		{long(api.MaxKey + 1), ""},
		{long(1000), ""},
		{"a", long(api.MaxValue + 1)},
		{"", long(api.MaxValue + 1)},
		{"a", "", "b", "", "c", long(1000)},
		{"a", "", "b" + long(api.MaxKey), "", "c", ""},
	}
}

func TestFromUnsound(t *testing.T) {
	for _, list := range unsound() {
		for _, version := range []int{0, 1, math.MaxInt} {
			if p, e := From(version, pairs(list...)); p != nil || e != api.ErrForm {
				t.Errorf("From(%d, %.40q): %v, %d", version, list, p, e)
			}
		}
		for _, version := range []int{math.MinInt, -2, -1} { // both apply
			if p, e := From(version, pairs(list...)); p != nil || e != api.ErrArg {
				t.Errorf("From(%d, %.40q): %v, %d", version, list, p, e)
			}
		}
	}
}

func TestFromBelow(t *testing.T) {
	for _, version := range []int{math.MinInt, math.MinInt + 1, -1000, -2, -1} {
		for _, list := range [][]api.Pair{nil, pairs("a", "1")} {
			if p, e := From(version, list); p != nil || e != api.ErrArg {
				t.Errorf("From(%d, %q): %v, %d", version, list, p, e)
			}
		}
	}
}

// What is done to the one is not done to the other, though both came of one list.
func TestTwo(t *testing.T) {
	list := pairs("a", "1", "b", "2")
	one, _ := From(3, list)
	two, _ := From(4, list)
	add(t, one, 9, api.OK, put("a", "x"), put("c", ""))
	add(t, two, 8, api.OK, clearOf("b"))
	forget(t, one, 9, api.OK)
	ends(t, one, 9, 9)
	ends(t, two, 4, 8)
	is(t, one, 9, "a", "x", "b", "2", "c", "")
	is(t, two, 4, "a", "1", "b", "2")
	is(t, two, 8, "a", "1")
	back(t, two, 4, api.OK)
	is(t, one, 9, "a", "x", "b", "2", "c", "")
}

// P10.2

func TestAddVersions(t *testing.T) {
	for _, last := range []int{0, 1, 7, 1 << 40, math.MaxInt - 2, math.MaxInt - 1, math.MaxInt} {
		for _, version := range []int{math.MinInt, -1, 0, last - 7, last - 1, last} {
			p := from(t, last, "a", "1")
			add(t, p, version, api.ErrOrder)
			add(t, p, version, api.ErrOrder, put("b", "2"))
			beyond(t, p, last, last)
			is(t, p, last, "a", "1")
		}
		for _, version := range []int{last + 1, last + 2, last + 1000, 1 << 50, api.Last, math.MaxInt - 1, math.MaxInt} {
			if version <= last { // wrapped round, or not above
				continue
			}
			p := from(t, last, "a", "1")
			add(t, p, version, api.OK, put("b", "2"))
			beyond(t, p, last, version)
			for _, ahead := range []int{last, last + (version-last)/2, version - 1} {
				if ahead < version {
					is(t, p, ahead, "a", "1")
				}
			}
			is(t, p, version, "a", "1", "b", "2")
			add(t, p, version, api.ErrOrder, put("c", "3"))
		}
	}
}

// With no changes last is the version all the same, and what keys were there is what they were ahead.
func TestAddNothing(t *testing.T) {
	p := from(t, 5, "a", "1")
	add(t, p, 6, api.OK)
	errs(t, "Add", p.Add(9, []api.Change{}...), api.OK)
	beyond(t, p, 5, 9)
	for version := 5; version <= 9; version++ {
		is(t, p, version, "a", "1")
	}
	add(t, p, 9, api.ErrOrder)
	add(t, p, 12, api.OK, put("a", "2"))
	is(t, p, 11, "a", "1")
	is(t, p, 12, "a", "2")
}

func TestAddKinds(t *testing.T) {
	top := strings.Repeat("\xff", api.MaxKey+1)
	was := []string{"", "0", "a", "1", "b", "2", "c", "3"}
	for _, c := range []struct {
		list []api.Change
		want []string
	}{
		{[]api.Change{put("a", "x")}, []string{"", "0", "a", "x", "b", "2", "c", "3"}},
		{[]api.Change{put("a", "")}, []string{"", "0", "a", "", "b", "2", "c", "3"}},
		{[]api.Change{put("", "x")}, []string{"", "x", "a", "1", "b", "2", "c", "3"}},
		{[]api.Change{put("aa", "x")}, []string{"", "0", "a", "1", "aa", "x", "b", "2", "c", "3"}},
		{[]api.Change{put(long(api.MaxKey), long(api.MaxValue))}, append(was[:len(was):len(was)], long(api.MaxKey), long(api.MaxValue))},
		{[]api.Change{clearOf("a")}, []string{"", "0", "b", "2", "c", "3"}},
		{[]api.Change{clearOf("")}, []string{"a", "1", "b", "2", "c", "3"}},
		{[]api.Change{clearOf("x")}, was},
		{[]api.Change{clearOf(long(api.MaxKey))}, was},
		{[]api.Change{wipe("a", "c")}, []string{"", "0", "c", "3"}},
		{[]api.Change{wipe("a", "c\x00")}, []string{"", "0"}},
		{[]api.Change{wipe("a\x00", "b")}, was},
		{[]api.Change{wipe("b", "b")}, was},
		{[]api.Change{wipe("", "")}, was},
		{[]api.Change{wipe("", "\x00")}, []string{"a", "1", "b", "2", "c", "3"}},
		{[]api.Change{wipe("", top)}, nil},
		{[]api.Change{wipe("x", top)}, was},
		{[]api.Change{put("a", "x"), put("a", "y")}, []string{"", "0", "a", "y", "b", "2", "c", "3"}},
		{[]api.Change{put("a", "x"), clearOf("a")}, []string{"", "0", "b", "2", "c", "3"}},
		{[]api.Change{clearOf("a"), put("a", "x")}, []string{"", "0", "a", "x", "b", "2", "c", "3"}},
		{[]api.Change{wipe("", top), put("b", "x")}, []string{"b", "x"}},
		{[]api.Change{put("b", "x"), wipe("", top)}, nil},
		{[]api.Change{put("d", "x"), wipe("a", "c"), put("b", "y"), clearOf("c")}, []string{"", "0", "b", "y", "d", "x"}},
	} {
		p := from(t, 3, was...)
		add(t, p, 6, api.OK, c.list...)
		ends(t, p, 3, 6)
		for version := 3; version < 6; version++ {
			is(t, p, version, was...)
		}
		is(t, p, 6, c.want...)
		for _, x := range pairs(was...) {
			if !slices.ContainsFunc(pairs(c.want...), func(w api.Pair) bool { return w.Key == x.Key }) {
				lacks(t, p, 6, x.Key)
			}
		}
	}
}

// faults: changes that are not sound, and what Check answers.
func faults() map[api.Change]api.Errno {
	return map[api.Change]api.Errno{
		{}:                              api.ErrArg,
		{Kind: -1, Key: "a"}:            api.ErrArg,
		{Kind: 4, Key: "a"}:             api.ErrArg,
		{Kind: math.MinInt}:             api.ErrArg,
		{Kind: math.MaxInt}:             api.ErrArg,
		{Kind: 0, Key: long(100)}:       api.ErrArg,
		put(long(api.MaxKey+1), ""):     api.ErrLarge,
		put("a", long(api.MaxValue+1)):  api.ErrLarge,
		put(long(1000), long(1000)):     api.ErrLarge,
		clearOf(long(api.MaxKey + 1)):   api.ErrLarge,
		{Kind: api.Clear, Value: "x"}:   api.ErrLarge,
		wipe("a", long(api.MaxKey+2)):   api.ErrLarge,
		wipe("a"+long(17), "z"):         api.ErrLarge,
		wipe("z"+long(17), "a"):         api.ErrLarge,
		wipe("b", "a"):                  api.ErrRange,
		wipe("a\x00", "a"):              api.ErrRange,
		wipe("a", ""):                   api.ErrRange,
		wipe("z"+long(api.MaxKey), "z"): api.ErrRange,
	}
}

func TestAddFaults(t *testing.T) {
	for c, want := range faults() {
		if change.Check(c) != want {
			t.Fatalf("Check(%v): %d, not %d", c, change.Check(c), want)
		}
		p := grown(t)
		add(t, p, 41, want, c)
		add(t, p, 50, want, put("a", "!"), c)
		add(t, p, 50, want, c, put("a", "!"))
		add(t, p, math.MaxInt, want, clearOf("a"), wipe("", "z"), c, put("q", "!"))
		for _, version := range []int{math.MinInt, 0, 39, 40} { // both apply
			add(t, p, version, api.ErrOrder, c)
			add(t, nil, version, api.ErrArg, c)
		}
		isGrown(t, p, 5, 40)
		add(t, p, 41, api.OK, put("a", "z"))
		is(t, p, 41, "a", "z", "d", "y")
	}
}

// Of the faults of a list the first one is told.
func TestAddFirstFault(t *testing.T) {
	for one, want := range faults() {
		for other := range faults() {
			p := from(t, 5, "a", "1")
			add(t, p, 6, want, one, other)
			add(t, p, 6, want, put("a", "!"), one, put("b", "!"), other)
			ends(t, p, 5, 5)
			is(t, p, 5, "a", "1")
		}
	}
}

func TestGrown(t *testing.T) { isGrown(t, grown(t), 5, 40) }

// P10.3

func TestGet(t *testing.T) {
	p := grown(t)
	for _, c := range []struct {
		key     string
		version int
		value   string
		has     bool
		e       api.Errno
	}{
		{"a", 4, "", false, api.ErrOld},
		{"a", 5, "1", true, 0},
		{"a", 9, "1", true, 0},
		{"a", 10, "", false, 0},
		{"a", 19, "", false, 0},
		{"a", 20, "", true, 0}, // an empty value is one
		{"a", 39, "", true, 0},
		{"a", 40, "x", true, 0},
		{"a", 41, "", false, api.ErrNew},
		{"b", 10, "2", true, 0},
		{"b", 19, "2", true, 0},
		{"b", 20, "", false, 0}, // wiped, though the Wipe has a text in Value
		{"c", 9, "", false, 0},
		{"c", 10, "3", true, 0},
		{"c", 20, "", false, 0},
		{"d", 20, "4", true, 0}, // the Wipe ends there
		{"d", 40, "y", true, 0},
		{"", 5, "0", true, 0},
		{"", 39, "0", true, 0},
		{"", 40, "", false, 0},
		{"bb", 20, "", false, 0}, // wiped, but never there
		{"x", 5, "", false, 0},
		{"x", 40, "", false, 0},
		{"x", 3, "", false, api.ErrOld},
		{"x", 43, "", false, api.ErrNew},
		{"b" + long(100), 5, "", false, 0},
		{"b" + long(100), 20, "", false, 0},
		{long(api.MaxKey + 1), 40, "", false, 0},
		{long(api.MaxKey + 1), 4, "", false, api.ErrOld},
		{long(api.MaxKey + 1), 41, "", false, api.ErrNew},
		{strings.Repeat("\xff", 100), 40, "", false, 0},
	} {
		for range 2 { // to ask changes nothing
			if v, ok, e := p.Get(c.key, c.version); v != c.value || ok != c.has || e != c.e {
				t.Errorf("Get(%q, %d): %q, %v, %d", c.key, c.version, v, ok, e)
			}
		}
	}
	isGrown(t, p, 5, 40)
}

// A key that is the beginning of another one, or beside it, is another key.
func TestKeysBeside(t *testing.T) {
	key := "b" + long(api.MaxKey-1)
	p := from(t, 0, "b", "1")
	add(t, p, 1, api.OK, put(key, "2"))
	add(t, p, 2, api.OK, clearOf("b"), put("b\x00", "3"), put("B", "4"))
	lacks(t, p, 1, "b\x00", key[:15], key+"k", "B")
	is(t, p, 1, "b", "1", key, "2")
	lacks(t, p, 2, "b", "b\x01", "b\x00\x00", key[:15], key+"k", key+"\x00", "A")
	is(t, p, 2, "B", "4", "b\x00", "3", key, "2")
	add(t, p, 3, api.OK, wipe("b\x00", key))
	is(t, p, 3, "B", "4", key, "2")
	add(t, p, 4, api.OK, wipe("b\x00", key+"\x00"))
	is(t, p, 4, "B", "4")
}

func TestList(t *testing.T) {
	p := grown(t)
	far := long(1000)
	for _, c := range []struct {
		s             api.Span
		version, most int
		want          []string
	}{
		{all(), 5, 0, nil},
		{all(), 5, 1, []string{"", "0"}},
		{all(), 5, 3, []string{"", "0", "a", "1", "b", "2"}},
		{all(), 5, 4, []string{"", "0", "a", "1", "b", "2", "d", "4"}},
		{all(), 5, 5, []string{"", "0", "a", "1", "b", "2", "d", "4"}},
		{all(), 5, math.MaxInt, []string{"", "0", "a", "1", "b", "2", "d", "4"}},
		{all(), 15, 3, []string{"", "0", "b", "2", "c", "3"}},
		{all(), 20, 2, []string{"", "0", "a", ""}},
		{all(), 30, 9, []string{"", "0", "a", "", "d", "4"}},
		{all(), 39, 9, []string{"", "0", "a", "", "d", "4"}},
		{all(), 40, 1, []string{"a", "x"}},
		{all(), 40, 2, []string{"a", "x", "d", "y"}},
		{of("a", "d"), 5, 9, []string{"a", "1", "b", "2"}},
		{of("a", "d"), 5, 1, []string{"a", "1"}},
		{of("a", "d"), 5, 0, nil},
		{of("a", "d\x00"), 5, 9, []string{"a", "1", "b", "2", "d", "4"}},
		{of("a\x00", "d"), 5, 9, []string{"b", "2"}},
		{of("", "\x00"), 5, 9, []string{"", "0"}},
		{of("", "a"), 5, 9, []string{"", "0"}},
		{of("\x00", "a"), 5, 9, nil},
		{of("b", "b\x00"), 5, 9, []string{"b", "2"}},
		{of("b", "b\x00"), 20, 9, nil},
		{of("c", "d"), 5, 9, nil},
		{of("c", "d"), 10, 9, []string{"c", "3"}},
		{of("bb", "cc"), 10, 9, []string{"c", "3"}},
		{of("e", "z"), 10, 9, nil},
		{of("a"+far, "d"+far), 5, 9, []string{"b", "2", "d", "4"}}, // no change's ends may be so long, but a span's may
		{of("a"+far, "d"), 5, 1, []string{"b", "2"}},
		{of("a", "a"), 5, 9, nil},
		{of("", ""), 5, 9, nil},
		{of("d", "a"), 5, 9, nil},
		{of("d", "a"), 5, 0, nil},
		{of("b", ""), 5, 9, nil},
	} {
		for range 2 {
			lists(t, p, c.s, c.version, c.most, c.want...)
		}
	}
	isGrown(t, p, 5, 40)
}

func TestListMost(t *testing.T) {
	p := grown(t)
	for _, most := range []int{math.MinInt, math.MinInt + 1, -1000, -2, -1} {
		for _, s := range []api.Span{all(), of("a", "b"), of("e", "f"), of("", ""), of("b", "a")} {
			for _, version := range []int{5, 6, 20, 40} {
				if l, e := p.List(s, version, most); l != nil || e != api.ErrArg {
					t.Errorf("List(%q, %d, %d): %q, %d", s, version, most, l, e)
				}
			}
			for _, version := range []int{math.MinInt, -1, 4} { // both apply
				if l, e := p.List(s, version, most); l != nil || e != api.ErrOld {
					t.Errorf("List(%q, %d, %d): %q, %d", s, version, most, l, e)
				}
			}
			for _, version := range []int{41, math.MaxInt} {
				if l, e := p.List(s, version, most); l != nil || e != api.ErrNew {
					t.Errorf("List(%q, %d, %d): %q, %d", s, version, most, l, e)
				}
			}
		}
	}
	isGrown(t, p, 5, 40)
}

// Many Adds, and many keys: each version is as it was.
func TestMany(t *testing.T) {
	p := from(t, 0)
	for i := 1; i <= 300; i++ {
		add(t, p, 3*i, api.OK, put(fmt.Sprintf("%04d", (i*7)%300), fmt.Sprint(i)), put("at", fmt.Sprint(3*i)))
	}
	beyond(t, p, 0, 900)
	for version := 0; version <= 900; version++ {
		var want []string
		if version < 3 {
			is(t, p, version)
			continue
		}
		has(t, p, "at", version, fmt.Sprint(version-version%3))
		by := map[string]string{}
		for i := 1; i <= version/3; i++ {
			by[fmt.Sprintf("%04d", (i*7)%300)] = fmt.Sprint(i)
		}
		for _, key := range slices.Sorted(maps.Keys(by)) {
			want = append(want, key, by[key])
		}
		lists(t, p, of("0", "1"), version, math.MaxInt, want...)
		lists(t, p, of("0", "1"), version, 10, want[:min(20, len(want))]...)
	}
}

// P10.4

func TestForget(t *testing.T) {
	for version := 5; version <= 40; version++ {
		p := grown(t)
		forget(t, p, version, api.OK)
		isGrown(t, p, version, 40)
		for _, lower := range []int{math.MinInt, -1, 0, 4, 5, version - 1, version} { // never lower again
			forget(t, p, lower, api.OK)
			ends(t, p, version, 40)
		}
		isGrown(t, p, version, 40)
		add(t, p, 40, api.ErrOrder, put("q", "!"))
		add(t, p, 50, api.OK, put("q", "7"), clearOf("a"))
		for v := version; v < 50; v++ {
			is(t, p, v, grownAt(v)...)
		}
		is(t, p, 50, "d", "y", "q", "7")
	}
}

// Forget by steps is as Forget at once.
func TestForgetBySteps(t *testing.T) {
	p := grown(t)
	for version := 0; version <= 40; version++ {
		forget(t, p, version, api.OK)
		isGrown(t, p, max(5, version), 40)
	}
	p = grown(t)
	for version := 40; version >= 0; version-- {
		forget(t, p, version, api.OK)
		isGrown(t, p, 40, 40)
	}
}

func TestForgetBelow(t *testing.T) {
	for _, version := range []int{math.MinInt, -1, 0, 4, 5} {
		p := grown(t)
		forget(t, p, version, api.OK)
		isGrown(t, p, 5, 40)
	}
}

func TestForgetAbove(t *testing.T) {
	for _, version := range []int{41, 42, 1000, math.MaxInt} {
		p := grown(t)
		forget(t, p, version, api.ErrNew)
		isGrown(t, p, 5, 40)
	}
}

// A value that none but a forgotten version gave is there behind Forget, and what was wiped there is not.
func TestForgetKeeps(t *testing.T) {
	p := New()
	add(t, p, 1, api.OK, put("a", "1"), put("b", "2"))
	add(t, p, 2, api.OK, clearOf("b"), put("c", "3"))
	add(t, p, 3, api.OK, wipe("c", "d"))
	forget(t, p, 3, api.OK)
	is(t, p, 3, "a", "1")
	lacks(t, p, 3, "b", "c")
	add(t, p, 9, api.OK, put("b", "4"))
	forget(t, p, 8, api.OK)
	is(t, p, 8, "a", "1")
	is(t, p, 9, "a", "1", "b", "4")
}

func TestBack(t *testing.T) {
	for version := 5; version <= 40; version++ {
		p := grown(t)
		back(t, p, version, api.OK)
		isGrown(t, p, 5, version)
		back(t, p, version, api.OK) // it is the last one now
		isGrown(t, p, 5, version)
		add(t, p, version, api.ErrOrder, put("q", "!"))
		add(t, p, version+1, api.OK, put("q", "7"), wipe("", "e"))
		for v := 5; v <= version; v++ {
			is(t, p, v, grownAt(v)...)
		}
		is(t, p, version+1, "q", "7")
		beyond(t, p, 5, version+1)
	}
}

// What was behind does not come again, whatever is added there.
func TestBackAndAgain(t *testing.T) {
	p := grown(t)
	back(t, p, 15, api.OK)
	add(t, p, 60, api.OK)
	for version := 10; version <= 60; version++ {
		is(t, p, version, grownAt(10)...)
	}
	back(t, p, 20, api.OK)
	add(t, p, 30, api.OK, put("a", "new"))
	beyond(t, p, 5, 30)
	is(t, p, 29, grownAt(10)...)
	is(t, p, 30, "", "0", "a", "new", "b", "2", "c", "3", "d", "4")
	back(t, p, 5, api.OK)
	beyond(t, p, 5, 5)
	is(t, p, 5, grownAt(5)...)
}

// Back by steps is as Back at once.
func TestBackBySteps(t *testing.T) {
	p := grown(t)
	for version := 40; version >= 5; version-- {
		back(t, p, version, api.OK)
		isGrown(t, p, 5, version)
	}
	for version := 6; version <= 9; version++ {
		back(t, p, version, api.ErrNew)
	}
	isGrown(t, p, 5, 5)
}

func TestBackRefused(t *testing.T) {
	for _, version := range []int{math.MinInt, -1, 0, 4} {
		p := grown(t)
		back(t, p, version, api.ErrOld)
		isGrown(t, p, 5, 40)
	}
	for _, version := range []int{41, 42, 1000, math.MaxInt} {
		p := grown(t)
		back(t, p, version, api.ErrNew)
		isGrown(t, p, 5, 40)
	}
}

// Both, in either order: of what is left each version is as it was.
func TestForgetAndBack(t *testing.T) {
	for first := 5; first <= 40; first++ {
		for last := first; last <= 40; last++ {
			one, two := grown(t), grown(t)
			forget(t, one, first, api.OK)
			back(t, one, last, api.OK)
			back(t, two, last, api.OK)
			forget(t, two, first, api.OK)
			for _, p := range []*Past{one, two} {
				ends(t, p, first, last)
				for _, version := range []int{first, (first + last) / 2, last} {
					is(t, p, version, grownAt(version)...)
				}
				back(t, p, first-1, api.ErrOld)
				back(t, p, last+1, api.ErrNew)
				forget(t, p, last+1, api.ErrNew)
				refused(t, p, first-1, api.ErrOld)
				refused(t, p, last+1, api.ErrNew)
				add(t, p, last+1, api.OK, put("q", "7"), clearOf("d"))
				has(t, p, "q", last+1, "7")
				lacks(t, p, last+1, "d")
				is(t, p, last, grownAt(last)...)
			}
		}
	}
}

// At the greatest version there is nothing above it to ask.
func TestGreatest(t *testing.T) {
	p := from(t, math.MaxInt-2, "a", "1")
	add(t, p, math.MaxInt, api.OK, clearOf("a"), put("b", "2"))
	beyond(t, p, math.MaxInt-2, math.MaxInt)
	is(t, p, math.MaxInt-1, "a", "1")
	is(t, p, math.MaxInt, "b", "2")
	add(t, p, math.MaxInt, api.ErrOrder)
	forget(t, p, math.MaxInt-1, api.OK)
	beyond(t, p, math.MaxInt-1, math.MaxInt)
	back(t, p, math.MaxInt-1, api.OK)
	beyond(t, p, math.MaxInt-1, math.MaxInt-1)
	is(t, p, math.MaxInt-1, "a", "1")
	add(t, p, math.MaxInt, api.OK, put("c", "3"))
	forget(t, p, math.MaxInt, api.OK)
	beyond(t, p, math.MaxInt, math.MaxInt)
	is(t, p, math.MaxInt, "a", "1", "c", "3")
}

// Memory

// scratch turns all pairs of a list, its spare room included.
func scratch(list []api.Pair) {
	list = list[:cap(list)]
	for i := range list {
		list[i] = api.Pair{Key: "!", Value: "!"}
	}
}

// scratched: is it as scratch left it?
func scratched(list []api.Pair) bool {
	return !slices.ContainsFunc(list[:cap(list)], func(x api.Pair) bool { return x != api.Pair{Key: "!", Value: "!"} })
}

// What who gave pairs does with them, or with their spare room, is nothing to it; nor does it turn them.
func TestPairsHandedIn(t *testing.T) {
	whole := pairs("a", "1", "b", "2", "c", "3", "d", "4")
	kept := slices.Clone(whole)
	for n := range 5 {
		list := slices.Clone(whole)
		p, _ := From(5, list[:n])
		add(t, p, 6, api.OK, put("aa", "x"), clearOf("b"), put("z", "9"), put("c", "7"))
		forget(t, p, 6, api.OK)
		if !slices.Equal(list, kept) {
			t.Errorf("%d pairs: what was handed in is now %q", n, list)
		}
		p, _ = From(5, list[:n])
		scratch(list)
		var want []string
		for _, x := range kept[:n] {
			want = append(want, x.Key, x.Value)
		}
		is(t, p, 5, want...)
		lacks(t, p, 5, "!")
		add(t, p, 7, api.OK, put("z", "9"))
		back(t, p, 5, api.OK)
		if !scratched(list) {
			t.Errorf("%d pairs: what was handed in is now %q", n, list)
		}
	}
}

// So of changes.
func TestChangesHandedIn(t *testing.T) {
	whole := []api.Change{put("a", "1"), wipe("b", "c"), clearOf("d"), put("e", "5"), put("f", "6")}
	kept := slices.Clone(whole)
	p := from(t, 5, "a", "0", "b", "0", "d", "0")
	errs(t, "Add", p.Add(6, whole[:3]...), api.OK)
	errs(t, "Add", p.Add(7, whole[3:4]...), api.OK)
	errs(t, "Add", p.Add(8, whole[:0]...), api.OK)
	errs(t, "Add", p.Add(9, put("g", "7")), api.OK)
	if !slices.Equal(whole, kept) {
		t.Errorf("what was handed in is now %v", whole)
	}
	for i := range whole {
		whole[i] = put("!", "!")
	}
	check := func() {
		t.Helper()
		is(t, p, 6, "a", "1")
		is(t, p, 7, "a", "1", "e", "5")
		is(t, p, 8, "a", "1", "e", "5")
		is(t, p, 9, "a", "1", "e", "5", "g", "7")
	}
	check()
	forget(t, p, 6, api.OK)
	check()
	if slices.ContainsFunc(whole, func(c api.Change) bool { return c != put("!", "!") }) {
		t.Errorf("what was handed in is now %v", whole)
	}
}

// What was answered is the caller's: no pair of it, nor of its spare room, is the past's or another answer's.
func TestAnswers(t *testing.T) {
	for _, forgotten := range []bool{true, false} {
		p := grown(t)
		if forgotten {
			forget(t, p, 40, api.OK)
		}
		want := pairs(grownAt(40)...)
		mosts := []int{0, 1, 2, 0, 1, 2}
		var answers [][]api.Pair
		for _, most := range mosts {
			l, _ := p.List(all(), 40, most)
			answers = append(answers, l)
		}
		for i, l := range answers {
			scratch(l)
			for j, other := range answers[i+1:] {
				if !slices.Equal(other, want[:mosts[i+1+j]]) {
					t.Errorf("an answer is now %q", other)
				}
			}
			is(t, p, 40, grownAt(40)...)
		}
		add(t, p, 41, api.OK, put("a", "9"), put("zz", "9"))
		forget(t, p, 41, api.OK)
		is(t, p, 41, "a", "9", "d", "y", "zz", "9")
		for _, l := range answers {
			if !scratched(l) {
				t.Errorf("behind more calls an answer is %q", l)
			}
		}
	}
}

// An answer that is handed in again is like any other list.
func TestAnswerHandedIn(t *testing.T) {
	p := grown(t)
	l, _ := p.List(all(), 12, 3)
	q, e := From(3, l)
	errs(t, "From", e, api.OK)
	scratch(l)
	is(t, q, 3, "", "0", "b", "2", "c", "3")
	add(t, q, 4, api.OK, put("b", "x"))
	isGrown(t, p, 5, 40)
}

// All promises together

// plain: what keys were, as the words say it: at each version from first on all of them.
type plain struct {
	first int
	at    []map[string]string
}

func (m *plain) last() int { return m.first + len(m.at) - 1 }

func (m *plain) clone() *plain { return &plain{first: m.first, at: slices.Clone(m.at)} }

func (m *plain) known(version int) api.Errno {
	if version < m.first {
		return api.ErrOld
	}
	if version > m.last() {
		return api.ErrNew
	}
	return api.OK
}

func (m *plain) add(version int, list ...api.Change) api.Errno {
	if version <= m.last() {
		return api.ErrOrder
	}
	for _, c := range list {
		if e := change.Check(c); e != api.OK {
			return e
		}
	}
	for m.last() < version {
		m.at = append(m.at, maps.Clone(m.at[len(m.at)-1]))
	}
	keys := m.at[len(m.at)-1]
	for _, c := range list {
		switch c.Kind {
		case api.Put:
			keys[c.Key] = c.Value
		case api.Clear:
			delete(keys, c.Key)
		case api.Wipe:
			maps.DeleteFunc(keys, func(key, _ string) bool { return c.Key <= key && key < c.Value })
		}
	}
	return api.OK
}

func (m *plain) forget(version int) api.Errno {
	if version > m.last() {
		return api.ErrNew
	}
	for m.first < version {
		m.first++
		m.at = m.at[1:]
	}
	return api.OK
}

func (m *plain) back(version int) api.Errno {
	if e := m.known(version); e != api.OK {
		return e
	}
	m.at = m.at[:version-m.first+1]
	return api.OK
}

func (m *plain) get(key string, version int) (string, bool, api.Errno) {
	if e := m.known(version); e != api.OK {
		return "", false, e
	}
	v, ok := m.at[version-m.first][key]
	return v, ok, api.OK
}

func (m *plain) list(s api.Span, version, most int) ([]api.Pair, api.Errno) {
	if e := m.known(version); e != api.OK {
		return nil, e
	}
	if most < 0 {
		return nil, api.ErrArg
	}
	keys := m.at[version-m.first]
	var out []api.Pair
	for _, key := range slices.Sorted(maps.Keys(keys)) {
		if s.From <= key && key < s.To && len(out) < most {
			out = append(out, api.Pair{Key: key, Value: keys[key]})
		}
	}
	return out, api.OK
}

// wayKeys: those that the steps of ways change, and some beside them.
func wayKeys() []string { return []string{"", "a", "a\x00", "b", "c", "x", long(api.MaxKey + 1)} }

// waySpans: some that have all of them, some, one and none.
func waySpans() []api.Span {
	return []api.Span{all(), of("", "b"), of("a", "b"), of("a\x00", "c"), of("b", "b\x00"), of("d", "e"), of("b", "a"), of("", "")}
}

// differs: what it says otherwise than the plain one; empty: nothing.
func differs(p *Past, m *plain) string {
	if a, b := p.Ends(); a != m.first || b != m.last() {
		return fmt.Sprintf("Ends: %d, %d, not %d, %d", a, b, m.first, m.last())
	}
	for version := m.first - 1; version <= m.last()+1; version++ {
		for _, key := range wayKeys() {
			v, ok, e := p.Get(key, version)
			if w, want, f := m.get(key, version); v != w || ok != want || e != f {
				return fmt.Sprintf("Get(%q, %d): %q, %v, %d, not %q, %v, %d", key, version, v, ok, e, w, want, f)
			}
		}
		for i, s := range waySpans() {
			most := []int{9, 1, 9, 2, 1, 9, 9, 0}[i]
			l, e := p.List(s, version, most)
			if w, f := m.list(s, version, most); !slices.Equal(l, w) || e != f {
				return fmt.Sprintf("List(%q, %d, %d): %q, %d, not %q, %d", s, version, most, l, e, w, f)
			}
		}
	}
	return ""
}

// step: one call of a past and of a plain one: are the answers the same?
type step struct {
	name string
	do   func(p *Past, m *plain) bool
}

// addStep: at so much behind last.
func addStep(by int, list ...api.Change) step {
	return step{fmt.Sprintf("add %d %v", by, list), func(p *Past, m *plain) bool {
		version := m.last() + by
		return p.Add(version, list...) == m.add(version, list...)
	}}
}

// forgetStep: at so much behind first.
func forgetStep(by int) step {
	return step{fmt.Sprint("forget ", by), func(p *Past, m *plain) bool {
		version := m.first + by
		return p.Forget(version) == m.forget(version)
	}}
}

// backStep: at so much ahead of last.
func backStep(by int) step {
	return step{fmt.Sprint("back ", by), func(p *Past, m *plain) bool {
		version := m.last() - by
		return p.Back(version) == m.back(version)
	}}
}

// started: both, at that version, with some keys.
func started(t *testing.T, version int) (*Past, *plain) {
	t.Helper()
	return from(t, version, "a", "1", "b", "2"), &plain{first: version, at: []map[string]string{{"a": "1", "b": "2"}}}
}

// walk: goes this way, and fails where it is not what the words say; behind so many steps each time, and behind all, everything is asked.
func walk(t *testing.T, start int, way []step, steps int) {
	t.Helper()
	p, m := started(t, start)
	for i, s := range way {
		if !s.do(p, m) {
			t.Fatalf("from %d on: at %d: another answer: %v", start, i, told(way[:i+1]))
		}
		if (i+1)%steps != 0 && i < len(way)-1 {
			continue
		}
		if fault := differs(p, m); fault != "" {
			t.Fatalf("from %d on: at %d: %s: %v", start, i, fault, told(way[:i+1]))
		}
	}
}

// told: the names of these steps.
func told(way []step) []string {
	var out []string
	for _, s := range way {
		out = append(out, s.name)
	}
	return out
}

// All ways of a few calls.
func TestShortWays(t *testing.T) {
	steps := []step{
		addStep(0, put("x", "!")), addStep(1), addStep(2, put("a", "3")), addStep(1, put("c", "4"), clearOf("a")), addStep(1, wipe("a", "c")),
		addStep(2, wipe("", "c"), put("a\x00", "")), addStep(1, put("", "5"), put("", "6")), addStep(1, put("b", "!"), put(long(17), "")),
		forgetStep(-1), forgetStep(0), forgetStep(1), forgetStep(2), forgetStep(4),
		backStep(-1), backStep(0), backStep(1), backStep(2), backStep(4),
	}
	for start, calls := range map[int]int{0: 3, 7: 4} {
		var further func(way []step, more int)
		further = func(way []step, more int) {
			if more == 0 {
				walk(t, start, way, len(way))
				return
			}
			for _, s := range steps {
				further(append(way[:len(way):len(way)], s), more-1)
			}
		}
		further(nil, calls)
	}
}

// Some ways of many calls, the same ones each time.
func TestLongWays(t *testing.T) {
	steps := []step{forgetStep(0), forgetStep(1), forgetStep(2), forgetStep(7), backStep(1), backStep(2), backStep(5), backStep(-1), addStep(0), addStep(-1), addStep(4)}
	keys := wayKeys()[:5]
	pick := rand.New(rand.NewPCG(10, 1))
	for i := range 60 {
		var list []api.Change
		for range i % 4 {
			a, b := keys[pick.IntN(5)], keys[pick.IntN(5)]
			list = append(list, []api.Change{put(a, fmt.Sprint(i)), put(b, fmt.Sprint(i)), clearOf(a), wipe(min(a, b), max(a, b))}[pick.IntN(4)])
		}
		steps = append(steps, addStep(1+i%3, list...))
	}
	for range 100 {
		way := make([]step, 60)
		for i := range way {
			way[i] = steps[pick.IntN(len(steps))]
		}
		for _, start := range []int{0, 1000} {
			walk(t, start, way, 12)
		}
	}
}

// The same calls give the same answers.
func TestSameAgain(t *testing.T) {
	for range 50 {
		isGrown(t, grown(t), 5, 40)
	}
}
