package span

import (
	"slices"
	"strings"
	"testing"

	"roundhouse/api"
)

func of(from, to string) api.Span { return api.Span{From: from, To: to} }

// ends: texts between which all spans of the exhaustive tests lie; some with a neighbour (a, a and a byte 0), some at the end of all bytes.
func ends() []string { return []string{"", "\x00", "a", "a\x00", "b", "\xff", "\xff\xff"} }

// spans: all that lie between ends, empty and inverted ones too.
func spans() []api.Span {
	var out []api.Span
	for _, from := range ends() {
		for _, to := range ends() {
			out = append(out, of(from, to))
		}
	}
	return out
}

// keys: all ends, and texts beside them. What a span between ends has is told by the ends alone.
func keys() []string {
	out := ends()
	for _, k := range ends() {
		out = append(out, k+"\x00", k+"a", k+"\xff")
	}
	return out
}

func hasAny(list []api.Span, key string) bool {
	return slices.ContainsFunc(list, func(s api.Span) bool { return Has(s, key) })
}

// fewest: are these rising spans, none empty, none touching the next? (There is one such list for each set of keys, and it has the fewest.)
func fewest(list []api.Span) bool {
	for i, s := range list {
		if s.From >= s.To || i > 0 && s.From <= list[i-1].To {
			return false
		}
	}
	return true
}

// P1.1

func TestEmpty(t *testing.T) {
	for _, c := range []struct {
		s    api.Span
		want bool
	}{
		{of("a", "b"), false},
		{of("", "a"), false},
		{of("", "\x00"), false},
		{of("a", "a\x00"), false},
		{of("\x7f", "\x80"), false},
		{of("z", "é"), false},
		{of("", ""), true},
		{of("a", "a"), true},
		{of("b", "a"), true},
		{of("a", ""), true},
		{of("a\x00", "a"), true},
		{of("\xff", "\xfe\xff"), true},
		{of("\xff", "\xff"), true},
	} {
		if got := Empty(c.s); got != c.want {
			t.Errorf("Empty(%q): %v", c.s, got)
		}
	}
}

func TestHas(t *testing.T) {
	for _, c := range []struct {
		s    api.Span
		key  string
		want bool
	}{
		{of("a", "c"), "b", true},
		{of("a", "c"), "a", true},
		{of("a", "c"), "b\xff\xff", true},
		{of("a", "c"), "c", false},
		{of("a", "c"), "c\x00", false},
		{of("a", "c"), "Z", false},
		{of("a", "c"), "", false},
		{of("", "a"), "", true},
		{of("", ""), "", false},
		{of("a", "a"), "a", false},
		{of("c", "a"), "b", false},
		{of("a", "\xff"), "\xfe", true},
		{of("a", "\xff"), "\xff", false},
		{of("a", "b"), strings.Repeat("a", 1000), true},
	} {
		if got := Has(c.s, c.key); got != c.want {
			t.Errorf("Has(%q, %q): %v", c.s, c.key, got)
		}
	}
}

func TestEmptyHasNoKey(t *testing.T) {
	for _, s := range spans() {
		found := slices.ContainsFunc(keys(), func(k string) bool { return Has(s, k) })
		if found == Empty(s) {
			t.Errorf("Empty(%q): %v, but a key is in it: %v", s, Empty(s), found)
		}
	}
}

func TestNext(t *testing.T) {
	for key, want := range map[string]string{
		"":                 "\x00",
		"a":                "a\x00",
		"a\x00":            "a\x00\x00",
		"\xff":             "\xff\x00",
		"a\xffé":           "a\xffé\x00",
		"0123456789abcdef": "0123456789abcdef\x00",
	} {
		if got := Next(key); got != want {
			t.Errorf("Next(%q): %q", key, got)
		}
	}
	for _, key := range keys() {
		for _, k := range keys() {
			if Has(of(key, Next(key)), k) != (k == key) {
				t.Errorf("%q lies between %q and its Next", k, key)
			}
		}
	}
}

func TestBehind(t *testing.T) {
	for prefix, want := range map[string]string{
		"a":              "b",
		"\x00":           "\x01",
		"a\x00":          "a\x01",
		"ab":             "ac",
		"\x7f":           "\x80",
		"\xc3":           "\xc4",
		"\xfe":           "\xff",
		"a\xff":          "b",
		"a\xfe":          "a\xff",
		"a\xff\xff\xff":  "b",
		"\xffa\xff":      "\xffb",
		"a\xffb\xff\xff": "a\xffc",
		"\x00\xff":       "\x01",
	} {
		if got, e := Behind(prefix); got != want || e != api.OK {
			t.Errorf("Behind(%q): %q, %d", prefix, got, e)
		}
	}
}

func TestBehindNone(t *testing.T) {
	for _, prefix := range []string{"", "\xff", "\xff\xff", strings.Repeat("\xff", 100)} {
		if got, e := Behind(prefix); got != "" || e != api.ErrNone {
			t.Errorf("Behind(%q): %q, %d", prefix, got, e)
		}
	}
}

func TestBehindIsLeast(t *testing.T) {
	texts := append(keys(), "a\xff\x00", "a\xff\xff", "a\xff\xff\xff", "a\xffb", "b\x00", "\x01", "\x00\xff\xff")
	for _, prefix := range texts {
		behind, e := Behind(prefix)
		if e != api.OK {
			continue
		}
		for _, k := range append(texts, behind) {
			if Has(of(prefix, behind), k) != strings.HasPrefix(k, prefix) {
				t.Errorf("Behind(%q): %q, which is wrong of %q", prefix, behind, k)
			}
		}
	}
}

// P1.2

func TestMeet(t *testing.T) {
	for _, c := range []struct{ a, b, want api.Span }{
		{of("a", "m"), of("g", "z"), of("g", "m")},
		{of("a", "z"), of("g", "m"), of("g", "m")},
		{of("a", "m"), of("a", "m"), of("a", "m")},
		{of("", "b"), of("a", "\xff"), of("a", "b")},
		{of("a", "b"), of("a", "a\x00"), of("a", "a\x00")},
		{of("a", "b"), of("b", "c"), of("", "")},
		{of("a", "b"), of("x", "y"), of("", "")},
		{of("a", "z"), of("m", "m"), of("", "")},
		{of("a", "z"), of("m", "g"), of("", "")},
		{of("z", "a"), of("z", "a"), of("", "")},
		{of("", ""), of("a", "b"), of("", "")},
	} {
		if got := Meet(c.a, c.b); got != c.want {
			t.Errorf("Meet(%q, %q): %q", c.a, c.b, got)
		}
		if got := Meet(c.b, c.a); got != c.want {
			t.Errorf("Meet(%q, %q): %q", c.b, c.a, got)
		}
	}
}

func TestMeetHasTheKeysOfBoth(t *testing.T) {
	for _, a := range spans() {
		for _, b := range spans() {
			m := Meet(a, b)
			for _, k := range keys() {
				if Has(m, k) != (Has(a, k) && Has(b, k)) {
					t.Errorf("Meet(%q, %q): %q, which is wrong of %q", a, b, m, k)
				}
			}
			if Empty(m) && m != (api.Span{}) {
				t.Errorf("Meet(%q, %q): %q has something", a, b, m)
			}
		}
	}
}

func TestJoin(t *testing.T) {
	for _, c := range []struct{ list, want []api.Span }{
		{nil, nil},
		{[]api.Span{}, nil},
		{[]api.Span{of("x", "x"), of("z", "y"), of("", "")}, nil},
		{[]api.Span{of("a", "b")}, []api.Span{of("a", "b")}},
		{[]api.Span{of("b", "d"), of("a", "b"), of("c", "e"), of("x", "x")}, []api.Span{of("a", "e")}},
		{[]api.Span{of("m", "n"), of("a", "b")}, []api.Span{of("a", "b"), of("m", "n")}},
		{[]api.Span{of("a", "b"), of("b\x00", "c")}, []api.Span{of("a", "b"), of("b\x00", "c")}},
		{[]api.Span{of("a", "z"), of("b", "c"), of("d", "e")}, []api.Span{of("a", "z")}},
		{[]api.Span{of("a", "c"), of("a", "b")}, []api.Span{of("a", "c")}},
		{[]api.Span{of("a", "b"), of("a", "c")}, []api.Span{of("a", "c")}},
		{[]api.Span{of("z", "a"), of("b", "c")}, []api.Span{of("b", "c")}},
		{[]api.Span{of("a", "b"), of("x", "c"), of("d", "e")}, []api.Span{of("a", "b"), of("d", "e")}},
		{[]api.Span{of("\xff", "\xff\x00"), of("", "\x00")}, []api.Span{of("", "\x00"), of("\xff", "\xff\x00")}},
	} {
		if got := Join(c.list...); !slices.Equal(got, c.want) {
			t.Errorf("Join(%q): %q", c.list, got)
		}
	}
}

func TestWithout(t *testing.T) {
	for _, c := range []struct {
		s          api.Span
		list, want []api.Span
	}{
		{of("a", "e"), []api.Span{of("b", "c")}, []api.Span{of("a", "b"), of("c", "e")}},
		{of("a", "e"), nil, []api.Span{of("a", "e")}},
		{of("a", "e"), []api.Span{of("c", "c"), of("d", "b")}, []api.Span{of("a", "e")}},
		{of("a", "e"), []api.Span{of("a", "e")}, nil},
		{of("a", "e"), []api.Span{of("", "\xff")}, nil},
		{of("a", "e"), []api.Span{of("c", "z"), of("", "c")}, nil},
		{of("a", "e"), []api.Span{of("", "b"), of("d", "z")}, []api.Span{of("b", "d")}},
		{of("a", "e"), []api.Span{of("0", "a"), of("e", "f")}, []api.Span{of("a", "e")}},
		{of("a", "e"), []api.Span{of("a", "b")}, []api.Span{of("b", "e")}},
		{of("a", "e"), []api.Span{of("d", "e")}, []api.Span{of("a", "d")}},
		{of("a", "e"), []api.Span{of("d", "d\x00"), of("b", "b\x00")}, []api.Span{of("a", "b"), of("b\x00", "d"), of("d\x00", "e")}},
		{of("a", "e"), []api.Span{of("b", "c"), of("c", "d")}, []api.Span{of("a", "b"), of("d", "e")}},
		{of("a", "a"), nil, nil},
		{of("e", "a"), nil, nil},
		{of("e", "a"), []api.Span{of("b", "c")}, nil},
		{of("", ""), []api.Span{of("", "a")}, nil},
	} {
		if got := Without(c.s, c.list...); !slices.Equal(got, c.want) {
			t.Errorf("Without(%q, %q): %q", c.s, c.list, got)
		}
	}
}

// checkJoin: has Join(list..) just the keys of list, and the form?
func checkJoin(t *testing.T, list ...api.Span) {
	got := Join(list...)
	if !fewest(got) {
		t.Errorf("Join(%q): %q are not the fewest, or do not rise", list, got)
	}
	for _, k := range keys() {
		if hasAny(got, k) != hasAny(list, k) {
			t.Errorf("Join(%q): %q, which is wrong of %q", list, got, k)
		}
	}
}

// checkWithout: has Without(s, list..) just the keys of s that list has not, and the form?
func checkWithout(t *testing.T, s api.Span, list ...api.Span) {
	got := Without(s, list...)
	if !fewest(got) {
		t.Errorf("Without(%q, %q): %q are not the fewest, or do not rise", s, list, got)
	}
	for _, k := range keys() {
		if hasAny(got, k) != (Has(s, k) && !hasAny(list, k)) {
			t.Errorf("Without(%q, %q): %q, which is wrong of %q", s, list, got, k)
		}
	}
}

func TestAllSpansOfThree(t *testing.T) {
	for _, a := range spans() {
		for _, b := range spans() {
			for _, c := range spans() {
				checkJoin(t, a, b, c)
				checkWithout(t, a, b, c)
			}
			if t.Failed() {
				return
			}
		}
	}
}

func TestManySpans(t *testing.T) {
	var touching, apart []api.Span
	for i := 4095; i >= 0; i-- {
		key := string([]byte{byte(i >> 8), byte(i)})
		touching = append(touching, of(key, string([]byte{byte((i + 1) >> 8), byte(i + 1)})))
		apart = append(apart, of(key, Next(key)))
	}
	whole := of("\x00\x00", "\x10\x00")
	if got := Join(touching...); !slices.Equal(got, []api.Span{whole}) {
		t.Errorf("Join of spans that touch: %d of them", len(got))
	}
	if got := Without(whole, touching...); len(got) != 0 {
		t.Errorf("Without spans that touch: %d of them", len(got))
	}
	got := Join(apart...)
	slices.Reverse(apart)
	if !slices.Equal(got, apart) {
		t.Errorf("Join of single keys: %d of them", len(got))
	}
	if got := Without(whole, apart...); len(got) != 4096 || !fewest(got) {
		t.Errorf("Without single keys: %d of them", len(got))
	}
}

// R4 and R5, of the calls that take and answer lists.

func TestListsAreNotSharedOrChanged(t *testing.T) {
	room := []api.Span{of("m", "n"), of("z", "y"), of("a", "c"), of("b", "d"), of("spare", "room")}
	list := room[:4]
	was := slices.Clone(room)
	calls := []func() []api.Span{
		func() []api.Span { return Join(list...) },
		func() []api.Span { return Without(of("", "\xff"), list...) },
		func() []api.Span { return Join(list[2:3]...) },
	}
	for i, call := range calls {
		first := call()
		kept := slices.Clone(first)
		for j := range first[:cap(first)] {
			first[:cap(first)][j] = of("other", "span")
		}
		if !slices.Equal(room, was) {
			t.Errorf("call %d: what was handed in is now %q", i, room)
		}
		if second := call(); !slices.Equal(second, kept) {
			t.Errorf("call %d: %q, then %q", i, kept, second)
		}
	}
}
