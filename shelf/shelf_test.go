package shelf

import (
	"fmt"
	"slices"
	"strings"
	"testing"

	"roundhouse/api"
	"roundhouse/tape"
)

// long: so many bytes, all of them in the middle span.
func long(n int) string { return strings.Repeat("k", n) }

// busy: calls that leave some versions, of which one was saved.
func busy() []call {
	return []call{
		take(b(0, 10, put("b", "1"), put("c", "2"), put("a", "no"), put("m", "no"))),
		take(b(10, 20, put("d", "3"), clearOf("b"))),
		save(20),
		take(b(15, 30, wipe("a", "d"), put("l", ""))),
		take(b(30, 40)),
		take(b(40, 50, put("b", "4"))),
	}
}

// oneOfEach: one of each kind of call, of these numbers.
func oneOfEach(version int) []call {
	return []call{take(b(0, version, put("b", "1"))), take(api.Batch{Version: version, Known: -1}), get("b", version), get("z", version), list(middle(), version, 9), list(all(), version, -1), back(version), save(version)}
}

// P18.1

func TestNil(t *testing.T) {
	var s *Shelf
	for _, version := range []int{least, -1, 0, 1, 20, most} {
		for _, one := range oneOfEach(version) {
			if got := one.of(s).text(); got != is(api.ErrArg).text() {
				t.Errorf("%s of none: %s", one, got)
			}
		}
		if first, last := s.Ends(); first != 0 || last != 0 {
			t.Errorf("Ends of none: %d, %d", first, last)
		}
	}
}

// A shelf that Open did not make: no call of it panics, either.
func TestNoOpen(t *testing.T) {
	s := new(Shelf)
	for _, one := range oneOfEach(20) {
		want := api.ErrArg
		if one.name == "Take" && one.batch.Known < 0 {
			want = api.ErrForm
		}
		if got := one.of(s).text(); got != is(want).text() {
			t.Errorf("%s: %s", one, got)
		}
	}
	if first, last := s.Ends(); first != 0 || last != 0 {
		t.Errorf("Ends: %d, %d", first, last)
	}
}

// badSpans: of which there is no shelf; goodSpans: some of which there is one.
func badSpans() []api.Span {
	end, beyond := long(api.MaxKey+1), long(api.MaxKey+2)
	return []api.Span{
		{}, of("a", "a"), of("a", ""), of("b", "a"), of("\xff", "z"), of("a\x00", "a"), of(end, end), of(beyond, beyond),
		of("", beyond), of("a", beyond), of(beyond, "z"), of(end, beyond), of(beyond, "l"), of(beyond, beyond+"k"), of("", long(1000)), of(long(1000), "z"), of(long(1000), ""), of("z", beyond),
	}
}

func goodSpans() []api.Span {
	end := long(api.MaxKey + 1)
	return []api.Span{
		of("", "\x00"), of("", "a"), of("a", "a\x00"), of("", end), of("a", end), of(end, "z"), of(end, "l"), of(long(api.MaxKey), end), of(end, long(api.MaxKey)+"l"), all17(), of("\xff", "\xff\x00"),
	}
}

func TestOpenSpan(t *testing.T) {
	for _, s := range goodSpans() {
		x := newPair(t, s, busy()...)
		x.anew()
		x.do(asked(20, append(keys(), s.From, s.To, s.From+"\x00", long(api.MaxKey), long(api.MaxKey-1))...)...)
	}
}

// Of no tape, or of no span, nothing is asked of the tape.
func TestOpenArg(t *testing.T) {
	left := append(laidBytes([]byte("none")), 'x')
	for _, s := range badSpans() {
		down := tapeOf(t, 100, left)
		down.Fail(0)
		down.Sync()
		up := tapeOf(t, 100, left)
		for what, p := range map[string]*tape.Tape{"nil": nil, "down": down, "up": up} {
			if got, e := Open(p, s); got != nil || e != api.ErrArg {
				t.Errorf("%s: Open(%q): %v, %d", what, s, got, e)
			}
		}
		stands(t, "behind Open of no span", up, left)
	}
	for _, s := range append(goodSpans(), middle()) {
		if got, e := Open(nil, s); got != nil || e != api.ErrArg {
			t.Errorf("Open of no tape, %q: %v, %d", s, got, e)
		}
	}
}

func TestOpenNothing(t *testing.T) {
	for _, room := range []int{0, 1, 100, api.MaxTape} {
		p := tapeOf(t, room, nil)
		p.Fail(0) // nothing is written, so it does not go down
		x := &pair{t: t, s: open(t, p, middle()), p: p, q: newPlain(middle())}
		x.same(fmt.Sprint("room ", room))
		x.do(asked(0, keys()...)...)
		x.refuses(api.ErrNew, get("b", 1), list(all(), 1, 1), back(1), save(1))
		x.refuses(api.ErrOld, get("b", -1), list(all(), -1, 1), back(-1), save(-1))
		x.do(take(b(0, 1, put("b", "1"))), get("b", 1), get("b", 0))
	}
}

func TestOpenDown(t *testing.T) {
	whole := laidBytes(recordBytes(5, pairs("b", "1")...))
	for _, text := range [][]byte{nil, whole, append(slices.Clone(whole), 'x'), laidBytes([]byte("none"))} {
		p := tapeOf(t, len(text), text)
		p.Fail(0)
		if e := p.Sync(); e != api.ErrDown {
			t.Fatalf("Sync: %d", e)
		}
		for range 2 {
			if s, e := Open(p, middle()); s != nil || e != api.ErrDown {
				t.Errorf("%q: Open: %v, %d", text, s, e)
			}
		}
		p.Crash(0, 1)
		stands(t, "behind Open that was not done", p, text)
	}
}

// wide: pairs of many keys and values, all in the middle span.
func wide() []string {
	return []string{"b", "", "b\x00", "1", "c", long(api.MaxValue), long(api.MaxKey), "2", "l\xff", "\x00\xff"}
}

// What a record tells, and that the last one alone does.
func TestOpenRecords(t *testing.T) {
	for _, version := range []int{0, 1, 127, 128, 1 << 40, most - 1, most} {
		for _, keep := range [][]string{nil, {"b", "1"}, wide()} {
			last := recordBytes(version, pairs(keep...)...)
			for _, ahead := range [][][]byte{nil, {recordBytes(7, pairs("b", "7", "d", "8")...)}, {{}, []byte("none"), recordBytes(7, pairs("a", "out")...)}, {last, last[:len(last)-1]}} {
				p := tapeOf(t, 3000, laidBytes(append(ahead, last)...))
				p.Fail(0)
				s := open(t, p, middle())
				if first, end := s.Ends(); first != version || end != version {
					t.Errorf("Ends: %d, %d, not %d", first, end, version)
				}
				if got, e := s.List(all(), version, most); !slices.Equal(got, pairs(keep...)) || e != api.OK {
					t.Errorf("List: %q, %d, not %q", got, e, keep)
				}
				for _, y := range pairs(keep...) {
					if v, has, e := s.Get(y.Key, version); v != y.Value || !has || e != api.OK {
						t.Errorf("Get(%q): %q, %v, %d", y.Key, v, has, e)
					}
				}
				p.Fail(-1)
				if e := s.Save(version); e != api.OK {
					t.Errorf("Save: %d", e)
				}
				stands(t, "saved again", p, laidBytes(last))
			}
		}
	}
}

// noRecords: records that are none of a shelf of the middle span, by what is wrong with them.
func noRecords() map[string][]byte {
	fine := recordBytes(300, pairs("b", "1", "c", "2")...)
	with := func(b []byte, more ...byte) []byte { return append(slices.Clone(b), more...) }
	out := map[string][]byte{
		"words":                     []byte("none"),
		"ones":                      []byte(strings.Repeat("\xff", 40)),
		"a version too great":       with([]byte(strings.Repeat("\xff", 9)), 1, 0),
		"a version in too many":     {5 | 0x80, 0, 0},
		"how many in too many":      {5, 0x80, 0},
		"a text's size in too many": {5, 1, 0x81, 0, 'b', 0},
		"something behind":          with(fine, 0),
		"a pair behind":             with(fine, 1, 'd', 0),
		"something behind none":     with(recordBytes(5), 0),
		"a pair too few":            with([]byte{5, 2}, fine[3:7]...),
		"more pairs than there are": append([]byte{5, 3}, fine[3:]...),
		"too many pairs by far":     append([]byte{5, 0xff, 0xff, 0xff, 0xff, 0xff, 0xff, 0xff, 0xff, 0x7f}, fine[3:]...),
		"keys that are the same":    recordBytes(5, pairs("b", "1", "b", "1")...),
		"keys that fall":            recordBytes(5, pairs("c", "1", "b", "2")...),
		"keys that fall at last":    recordBytes(5, pairs("b", "1", "d", "2", "c", "3")...),
		"a key too large":           recordBytes(5, pairs(long(api.MaxKey+1), "")...),
		"a value too large":         recordBytes(5, pairs("b", long(api.MaxValue+1))...),
		"a value too large at last": recordBytes(5, pairs("b", "", "c", long(api.MaxValue+1))...),
		"a key below the span":      recordBytes(5, pairs("a\xff", "1", "c", "2")...),
		"no key":                    recordBytes(5, pairs("", "1")...),
		"a key at the span's end":   recordBytes(5, pairs("c", "1", "m", "2")...),
		"a key above the span":      recordBytes(5, pairs("c", "1", "z", "2")...),
	}
	for cut := range fine {
		out[fmt.Sprint("cut off at ", cut)] = fine[:cut]
	}
	return out
}

// A last record that is none of a shelf, alone or behind others: the tape is as it was.
func TestOpenNone(t *testing.T) {
	fine := recordBytes(5, pairs("b", "1")...)
	for what, bad := range noRecords() {
		for _, list := range [][][]byte{{bad}, {fine, bad}, {bad, fine, bad}} {
			text := laidBytes(list...)
			p := tapeOf(t, len(text), text)
			p.Fail(0)
			for range 2 {
				if s, e := Open(p, middle()); s != nil || e != api.ErrForm {
					t.Errorf("%s: Open: %v, %d", what, s, e)
				}
				stands(t, what, p, text)
			}
		}
		p := tapeOf(t, 1000, laidBytes(bad, fine)) // it is not the last one
		if s, e := Open(p, middle()); s == nil || e != api.OK {
			t.Errorf("%s, ahead of another one: Open: %v, %d", what, s, e)
		}
	}
}

// Bytes behind the last record are taken away, and what the book says to that goes ahead of a record that is none.
func TestOpenLeft(t *testing.T) {
	other := laidBytes(recordBytes(9, pairs("c", "2")...))
	turned := slices.Clone(other)
	turned[len(turned)-1] ^= 1
	records := noRecords()
	records["fine"] = recordBytes(5, pairs("b", "1")...)
	for what, record := range records {
		want := api.ErrForm
		if what == "fine" {
			want = api.OK
		}
		for _, left := range [][]byte{{'x'}, other[:1], other[:len(other)-1], turned, slices.Concat(turned, other)} {
			text := laidBytes(record)
			p := tapeOf(t, len(text)+len(left), append(slices.Clone(text), left...))
			p.Fail(0)
			if s, e := Open(p, middle()); s != nil || e != api.ErrDown {
				t.Errorf("%s, %q left: Open: %v, %d", what, left, s, e)
			}
			p.Crash(0, 0)
			p.Fail(1)
			s, e := Open(p, middle())
			if e != want || (s == nil) != (e != api.OK) {
				t.Errorf("%s, %q left: Open behind the crash: %v, %d", what, left, s, e)
			}
			stands(t, what, p, text)
			if s != nil && s.Save(5) != api.ErrDown {
				t.Errorf("%s: a second write", what)
			}
		}
	}
}

// What one shelf saved is another's, if its span has all the keys.
func TestOpenOtherSpan(t *testing.T) {
	x := newPair(t, middle(), take(b(0, 10, put("c", "1"), put("d", "2"))), save(10))
	for _, y := range []struct {
		s api.Span
		e api.Errno
	}{
		{middle(), 0}, {of("a", "z"), 0}, {all17(), 0}, {of("c", "d\x00"), 0}, {of("c", "e"), 0}, {of("c\x00", "e"), api.ErrForm}, {of("c", "d"), api.ErrForm}, {of("d", "e"), api.ErrForm}, {of("x", "z"), api.ErrForm}, {of("a", "c"), api.ErrForm},
	} {
		s, e := Open(x.p, y.s)
		if e != y.e || (s == nil) != (e != api.OK) {
			t.Errorf("%q: %v, %d, not %d", y.s, s, e, y.e)
		}
		if s == nil {
			continue
		}
		if got, e := s.List(all(), 10, most); !slices.Equal(got, pairs("c", "1", "d", "2")) || e != api.OK {
			t.Errorf("%q: List: %q, %d", y.s, got, e)
		}
	}
	for _, s := range goodSpans() { // no pairs are in any span
		y := newPair(t, middle(), take(b(0, 10, put("a", "1"))), save(10))
		if first, last := open(t, y.p, s).Ends(); first != 10 || last != 10 {
			t.Errorf("%q: Ends: %d, %d", s, first, last)
		}
	}
}

// P18.2

func TestTakeVersions(t *testing.T) {
	for _, y := range []struct {
		prev, version int
		e             api.Errno
		taken         bool
	}{
		{50, 51, 0, true}, {50, 60, 0, true}, {49, 51, 0, true}, {0, 51, 0, true}, {0, most, 0, true}, {50, most, 0, true}, {20, 60, 0, true}, {19, 60, 0, true}, {45, 60, 0, true},
		{50, 50, 0, false}, {49, 50, 0, false}, {40, 50, 0, false}, {51, 50, 0, false}, {most, 50, 0, false}, {0, 50, 0, false}, {0, 0, 0, false}, {0, 49, 0, false}, {40, 45, 0, false}, {70, 45, 0, false}, {5, 19, 0, false},
		{51, 52, api.ErrOrder, false}, {51, 51, api.ErrOrder, false}, {60, 60, api.ErrOrder, false}, {60, 55, api.ErrOrder, false}, {51, most, api.ErrOrder, false}, {most, most, api.ErrOrder, false}, {most, 51, api.ErrOrder, false}, {most - 1, most, api.ErrOrder, false},
	} {
		x := newPair(t, middle(), busy()...)
		was := x.q.view()
		x.gives(take(b(y.prev, y.version, put("b", "new"))), is(y.e))
		if taken := x.q.view() != was; taken != y.taken {
			t.Errorf("%d, %d: taken: %v", y.prev, y.version, taken)
		}
		if y.taken {
			x.gives(get("b", y.version), answer{value: "new", has: true})
			x.gives(get("b", y.version-1), answer{value: "4", has: true})
			x.gives(save(y.version), is(api.OK))
			x.anew()
			x.gives(get("b", y.version), answer{value: "new", has: true})
		}
	}
}

// wrongs: batches that are not sound.
func wrongs(prev, version int) []api.Batch {
	out := []api.Batch{{Prev: -1, Version: version}, {Prev: least, Version: version}, {Prev: prev, Version: -1}, {Prev: prev, Version: least}, {Prev: prev, Version: version, Known: -1}, {Prev: prev, Version: version, Known: least}}
	for _, wrong := range []api.Change{{}, {Kind: 4, Key: "b"}, {Kind: -1, Key: "b"}, put(long(api.MaxKey+1), ""), put("b", long(api.MaxValue+1)), {Kind: api.Clear, Key: "b", Value: "v"}, clearOf(long(api.MaxKey + 1)), wipe("b", "a"), wipe("z", "y"), wipe(long(api.MaxKey+2), "z"), wipe("", long(api.MaxKey+2)), put(strings.Repeat("z", api.MaxKey+1), "")} {
		for _, list := range [][]api.Change{{wrong}, {wrong, put("b", "new")}, {put("b", "new"), wrong}, {put("b", "new"), wrong, wipe("b", "m")}} {
			out = append(out, api.Batch{Prev: prev, Version: version, Changes: list})
		}
	}
	return append(out, b(prev, version, slices.Repeat([]api.Change{put("b", "new")}, api.MaxList+1)...))
}

// What is not sound is told ahead of versions that are not, and of those that were taken.
func TestTakeUnsound(t *testing.T) {
	x := newPair(t, middle(), busy()...)
	for _, y := range [][2]int{{50, 60}, {40, 50}, {0, 0}, {0, 5}, {51, 60}, {60, 60}, {70, 60}, {50, most}} {
		for _, wrong := range wrongs(y[0], y[1]) {
			x.refuses(api.ErrForm, take(wrong))
		}
	}
	x.gives(take(b(50, 60, slices.Repeat([]api.Change{put("b", "new")}, api.MaxList)...)), is(api.OK))
}

// What changes leave, inside the span, beside it, and on both sides of its ends.
func TestTakeChanges(t *testing.T) {
	top := strings.Repeat("\xff", api.MaxKey+1)
	for _, y := range []struct {
		list []api.Change
		want []string
	}{
		{nil, []string{"b", "1", "c", "2", "l", "3"}},
		{[]api.Change{put("b", "x"), put("l\xff", "y")}, []string{"b", "x", "c", "2", "l", "3", "l\xff", "y"}},
		{[]api.Change{put("a", "x"), put("a\xff", "x"), put("m", "x"), put("m\x00", "x"), put("", "x"), put("\xff", "x")}, []string{"b", "1", "c", "2", "l", "3"}},
		{[]api.Change{clearOf("b"), clearOf("a"), clearOf("m"), clearOf("d")}, []string{"c", "2", "l", "3"}},
		{[]api.Change{clearOf("l")}, []string{"b", "1", "c", "2"}},
		{[]api.Change{wipe("", top)}, nil},
		{[]api.Change{wipe("b", "m")}, nil},
		{[]api.Change{wipe("a", "b")}, []string{"b", "1", "c", "2", "l", "3"}},
		{[]api.Change{wipe("a", "b\x00")}, []string{"c", "2", "l", "3"}},
		{[]api.Change{wipe("m", "z"), wipe("", "b"), wipe("c", "c")}, []string{"b", "1", "c", "2", "l", "3"}},
		{[]api.Change{wipe("c", "z")}, []string{"b", "1"}},
		{[]api.Change{wipe("l", "m")}, []string{"b", "1", "c", "2"}},
		{[]api.Change{wipe("b\x00", "l")}, []string{"b", "1", "l", "3"}},
		{[]api.Change{wipe("", top), put("d", "x"), put("z", "x")}, []string{"d", "x"}},
		{[]api.Change{put("d", "x"), put("z", "x"), wipe("c", "z")}, []string{"b", "1"}},
		{[]api.Change{put("d", "x"), put("d", "y"), clearOf("c"), put("c", "")}, []string{"b", "1", "c", "", "d", "y", "l", "3"}},
		{[]api.Change{put(long(api.MaxKey), long(api.MaxValue))}, []string{"b", "1", "c", "2", long(api.MaxKey), long(api.MaxValue), "l", "3"}},
	} {
		x := newPair(t, middle(), take(b(0, 10, put("b", "1"), put("c", "2"), put("l", "3"))))
		x.gives(take(b(10, 20, y.list...)), is(api.OK))
		x.gives(list(all(), 20, most), answer{list: pairs(y.want...)})
		x.gives(list(all(), 19, most), answer{list: pairs("b", "1", "c", "2", "l", "3")})
		x.do(asked(20, keys()...)...)
		x.do(save(20))
		x.anew()
		x.gives(list(all(), 20, most), answer{list: pairs(y.want...)})
		x.do(asked(20, keys()...)...)
	}
}

// Spans whose ends are of the most bytes that may be: changes of keys on both sides of them.
func TestTakeLongEnds(t *testing.T) {
	end, key := long(api.MaxKey+1), long(api.MaxKey)
	list := []api.Change{put(key, "1"), put(key[1:]+"j", "2"), put(key[1:]+"l", "3"), wipe(end, end), wipe("", end), put("a", "4"), put(key, "5"), put("z", "6"), wipe(end, "l")}
	for _, s := range []api.Span{of("", end), of(end, "z"), of(key, end), of(end, key+"l"), of(end, "l")} {
		x := newPair(t, s)
		for i, c := range list {
			x.do(take(b(i, i+1, c)))
			x.do(asked(i+1, "a", key, key[1:]+"j", key[1:]+"l", end, "z")...)
		}
		x.do(save(5))
		x.anew()
		x.do(asked(5, "a", key, key[1:]+"j", key[1:]+"l", end, "z")...)
	}
}

func TestGet(t *testing.T) {
	x := newPair(t, middle(), busy()...)
	for _, y := range []struct {
		key     string
		version int
		want    answer
	}{
		{"c", 20, answer{value: "2", has: true}}, {"c", 29, answer{value: "2", has: true}}, {"c", 30, answer{}}, {"c", 50, answer{}},
		{"b", 20, answer{}}, {"b", 49, answer{}}, {"b", 50, answer{value: "4", has: true}}, {"l", 30, answer{has: true}}, {"l", 29, answer{}}, {"l\xff", 50, answer{}}, {long(99), 50, answer{}},
		{"a", 20, is(api.ErrRange)}, {"a\xff", 50, is(api.ErrRange)}, {"m", 50, is(api.ErrRange)}, {"m\x00", 20, is(api.ErrRange)}, {"", 20, is(api.ErrRange)}, {strings.Repeat("z", 99), 20, is(api.ErrRange)},
		{"b", 19, is(api.ErrOld)}, {"b", 0, is(api.ErrOld)}, {"b", least, is(api.ErrOld)}, {"b", 51, is(api.ErrNew)}, {"b", most, is(api.ErrNew)},
	} {
		x.gives(get(y.key, y.version), y.want)
	}
}

func TestList(t *testing.T) {
	x := newPair(t, middle(), take(b(0, 10, put("b", "1"), put("c", "2"), put("l", "3"), put("a", "no"), put("m", "no"))), take(b(10, 20, put("d", ""), clearOf("b"))), save(10))
	for _, y := range []struct {
		s    api.Span
		want []string
	}{
		{middle(), []string{"b", "1", "c", "2", "l", "3"}}, {all(), []string{"b", "1", "c", "2", "l", "3"}}, {of("", "z"), []string{"b", "1", "c", "2", "l", "3"}},
		{of("c", "l"), []string{"c", "2"}}, {of("c", "l\x00"), []string{"c", "2", "l", "3"}}, {of("b\x00", "z"), []string{"c", "2", "l", "3"}}, {of("", "c"), []string{"b", "1"}}, {of("", "b"), nil}, {of("m", "z"), nil}, {of("a", "b"), nil}, {of("", "b\x00"), []string{"b", "1"}}, {of("l", "m"), []string{"l", "3"}}, {of("l\x00", "m"), nil},
		{of("c", "c"), nil}, {of("l", "b"), nil}, {of("z", ""), nil}, {api.Span{}, nil}, {of("", long(1000)), []string{"b", "1", "c", "2"}}, {of(long(1000), "z"), []string{"l", "3"}},
	} {
		for n := range 5 {
			x.gives(list(y.s, 10, n), answer{list: pairs(y.want[:min(2*n, len(y.want))]...)})
		}
		x.gives(list(y.s, 10, most), answer{list: pairs(y.want...)})
		x.refuses(api.ErrArg, list(y.s, 10, -1), list(y.s, 20, least))
		x.refuses(api.ErrOld, list(y.s, 9, 5), list(y.s, least, 5), list(y.s, 9, -1))
		x.refuses(api.ErrNew, list(y.s, 21, 5), list(y.s, most, 5), list(y.s, most, -1))
	}
	x.gives(list(all(), 20, most), answer{list: pairs("c", "2", "d", "", "l", "3")})
	x.gives(list(all(), 19, 2), answer{list: pairs("b", "1", "c", "2")})
}

func TestBack(t *testing.T) {
	for version := 18; version <= 52; version++ {
		x := newPair(t, middle(), busy()...)
		if version < 20 || version > 50 {
			x.refuses(map[bool]api.Errno{true: api.ErrOld, false: api.ErrNew}[version < 20], back(version))
			continue
		}
		x.gives(back(version), is(api.OK))
		x.refuses(api.OK, back(version))
		x.refuses(api.ErrNew, back(version+1), get("b", version+1), list(all(), 50+1, 1), save(version+1))
		x.refuses(api.ErrOrder, take(b(version+1, version+2, put("b", "new"))))
		x.refuses(api.OK, take(b(0, version, put("b", "new"))), take(b(0, version-1, put("b", "new"))))
		x.gives(take(b(version, version+1, put("b", "new"), put("k", "new"))), is(api.OK)) // there may have been another batch
		x.gives(get("b", version+1), answer{value: "new", has: true})
		x.do(asked(version, keys()...)...)
		x.do(save(version + 1))
		x.refuses(api.ErrOld, back(version))
		x.anew()
		x.gives(get("k", version+1), answer{value: "new", has: true})
	}
}

// P18.3

func TestSaveVersions(t *testing.T) {
	for version := 18; version <= 52; version++ {
		x := newPair(t, middle(), busy()...)
		switch {
		case version < 20:
			x.refuses(api.ErrOld, save(version))
			continue
		case version > 50:
			x.refuses(api.ErrNew, save(version))
			continue
		}
		was, _ := x.q.list(all(), version, most)
		x.gives(save(version), is(api.OK))
		if first, last := x.s.Ends(); first != version || last != 50 {
			t.Errorf("Save(%d): Ends: %d, %d", version, first, last)
		}
		x.gives(list(all(), version, most), answer{list: was})
		x.refuses(api.ErrOld, save(version-1), get("b", version-1), back(version-1), list(all(), version-1, 1))
		x.gives(get("b", 50), answer{value: "4", has: true})
		x.refuses(api.OK, save(version)) // once more, with nothing new
		x.anew()
		if first, last := x.s.Ends(); first != version || last != version {
			t.Errorf("Save(%d): Ends, anew: %d, %d", version, first, last)
		}
		x.gives(list(all(), version, most), answer{list: was})
		x.refuses(api.ErrNew, save(version+1), get("b", version+1))
		x.refuses(api.ErrOld, save(version-1))
		x.gives(take(b(version, 60, put("b", "new"))), is(api.OK)) // with a gap, for whoever knows that there is none
		x.gives(save(60), is(api.OK))
		x.anew()
		x.gives(get("b", 60), answer{value: "new", has: true})
	}
	x := newPair(t, middle(), busy()...)
	x.refuses(api.ErrOld, save(0), save(-1), save(least))
	x.refuses(api.ErrNew, save(51), save(most))
}

// Saved where nothing was done, and behind a Back: what stands is what was Saved last.
func TestSaveAgain(t *testing.T) {
	x := newPair(t, middle(), save(0))
	stands(t, "saved nothing", x.p, laidBytes([]byte{0, 0}))
	x.do(take(b(0, 10, put("b", "1"))), take(b(10, 20, put("b", "2"))), save(0))
	stands(t, "saved nothing again", x.p, laidBytes([]byte{0, 0}))
	x.do(save(10), take(b(20, 30, put("b", "3"))), save(30), back(30))
	x.refuses(api.ErrOld, back(29), save(29))
	x.do(take(b(30, 40, put("b", "4"))), back(35), take(b(35, 38, put("c", "5"))), save(36))
	x.gives(list(all(), 36, most), answer{list: pairs("b", "3")})
	x.do(back(37), save(37), take(b(37, 40, wipe("b", "m"))), save(39), back(39))
	x.anew()
	x.gives(list(all(), 39, most), answer{list: pairs("b", "3")})
	x.do(take(b(0, most, clearOf("b"))), save(most), save(most), back(most))
	x.refuses(api.ErrOld, save(most-1), back(most-1))
	x.refuses(api.OK, take(b(5, most, put("b", "9"))))
	x.anew()
	x.gives(list(all(), most, most), answer{})
}

// filled: a batch behind which the pairs at 10 are a record of so many bytes, some thousands.
func filled(t *testing.T, size int) call {
	t.Helper()
	var list []api.Change
	var held []api.Pair
	for left := size - 3; left > 0; { // the version and how many pairs are 3
		n := min(left, 10+api.MaxValue)
		if rest := left - n; rest > 0 && rest < 10 {
			n -= 10
		}
		key := fmt.Sprintf("b%07d", len(list))
		list, held = append(list, put(key, long(n-10))), append(held, api.Pair{Key: key, Value: long(n - 10)})
		left -= n
	}
	if got := len(recordBytes(10, held...)); got != size {
		t.Fatalf("no pairs of %d bytes, but of %d", size, got)
	}
	return take(b(0, 10, list...))
}

// As many bytes as one record holds, and one more.
func TestSaveLarge(t *testing.T) {
	for _, by := range []int{-1, 0, 1, 2, 100, 20000} {
		x := newPair(t, middle(), save(0))
		x.do(filled(t, api.MaxBody-4+by))
		x.do(take(b(10, 20, clearOf("b0000000"), put("a", long(api.MaxValue)), put("m", long(api.MaxValue)))))
		if by <= 0 {
			x.gives(save(10), is(api.OK))
			x.anew()
			continue
		}
		x.refuses(api.ErrLarge, save(10))
		if by <= 50 {
			x.gives(save(20), is(api.OK)) // one key less
			x.anew()
			continue
		}
		x.refuses(api.ErrLarge, save(20))
		x.do(take(b(20, 30, wipe("b00001", "m"))))
		x.refuses(api.ErrLarge, save(29))
		x.gives(save(30), is(api.OK))
		x.anew()
	}
}

// The version counts among the bytes, too.
func TestSaveLargeVersion(t *testing.T) {
	x := newPair(t, middle(), filled(t, api.MaxBody-4))
	x.do(take(b(10, 200)))
	for _, y := range []struct {
		version int
		e       api.Errno
	}{{128, api.ErrLarge}, {200, api.ErrLarge}, {127, api.OK}} {
		x.gives(save(y.version), is(y.e))
	}
	x.refuses(api.ErrLarge, save(128))
	x.anew()
}

// A tape without room: nothing is changed then, and whatever finds room still is Saved.
func TestSaveNoRoom(t *testing.T) {
	first, second := laidBytes(recordBytes(10, pairs("b", "1")...)), laidBytes(recordBytes(20, pairs("b", "1", "c", "2")...))
	for room := range len(second) + 2 {
		p := tapeOf(t, room, nil)
		x := &pair{t: t, s: open(t, p, middle()), p: p, q: newPlain(middle())}
		x.do(take(b(0, 10, put("b", "1"))), take(b(10, 20, put("c", "2"))))
		for range 2 {
			for version, text := range map[int][]byte{20: second, 10: first} {
				if room >= len(text) {
					continue
				}
				if got := x.s.Save(version); got != api.ErrFull {
					t.Errorf("room %d: Save(%d): %d", room, version, got)
				}
				x.same("without room")
			}
		}
		x.refuses(api.ErrOld, save(-1))
		x.refuses(api.ErrNew, save(21))
		if room >= len(first) {
			x.gives(save(10), is(api.OK))
			x.do(take(b(20, 30, wipe("b", "m"))))
			x.gives(save(30), is(api.OK))
			x.anew()
		}
	}
}

// stillThere: is all but Save as ever, behind a Save that was answered with ErrDown?
func stillThere(t *testing.T, s *Shelf, q *plain) {
	t.Helper()
	was := *q
	was.states = slices.Clone(q.states)
	list := asked(20, keys()...)
	list = append(list, asked(50, keys()...)...)
	list = append(list, asked(19, keys()...)...)
	list = append(list, asked(51, keys()...)...)
	list = append(list, take(b(60, 70)), take(api.Batch{Known: -1}), take(b(50, 50)), take(b(50, 60, put("b", "new"))), get("b", 60), back(45), get("b", 50), get("b", 45), back(19), back(46), take(b(45, 50, put("b", "4"))))
	list = append(list, asked(50, keys()...)...)
	for _, one := range list {
		if got, want := one.of(s).text(), one.ofPlain(&was).text(); got != want {
			t.Errorf("%s: %s, not %s", one, got, want)
		}
		if first, _ := s.Ends(); s.Save(first) != api.ErrDown {
			t.Error("a Save that is not down")
		}
	}
}

// A tape that goes down at a Save, or was: all Saves behind it are ErrDown, ahead of the crash and behind it; nothing else is; a new Open finds what was, and goes on.
func TestDown(t *testing.T) {
	for _, version := range []int{20, 35, 50} {
		for _, keep := range []int{least, -1, 0, 1, 5, 17, most} {
			for _, turn := range []byte{0, 1, 0x80} {
				x := newPair(t, middle(), busy()...)
				x.p.Fail(0)
				for _, v := range []int{version, version, 0, 19, 51, least, most} {
					if e := x.s.Save(v); e != api.ErrDown {
						t.Fatalf("Save(%d): %d", v, e)
					}
				}
				stillThere(t, x.s, x.q)
				x.p.Crash(keep, turn)
				elder := x.s
				stillThere(t, elder, x.q)
				x.s = open(t, x.p, middle())
				x.q.anew()
				x.same("behind the crash")
				x.do(take(b(20, 30, put("b", "9"))), save(30))
				x.anew()
				x.gives(get("b", 30), answer{value: "9", has: true})
			}
		}
	}
}

// One that fails behind so many others; and one that went down by another's call.
func TestDownLater(t *testing.T) {
	for after := range 4 {
		x := newPair(t, middle(), busy()...)
		x.p.Fail(after)
		for i := range after {
			x.gives(save(21+i), is(api.OK))
			x.refuses(api.ErrOld, save(20+i)) // what is refused is no call of the tape
			x.refuses(api.ErrNew, save(51))
		}
		if e := x.s.Save(50); e != api.ErrDown {
			t.Errorf("Save behind %d: %d", after, e)
		}
		x.anew()
		x.gives(list(all(), x.q.last, 0), answer{})
	}
	x := newPair(t, middle(), busy()...)
	x.do(take(b(50, 60, filled(t, api.MaxBody).batch.Changes...)))
	x.p.Fail(0)
	x.p.Sync()
	for _, y := range []struct {
		version int
		e       api.Errno
	}{{19, api.ErrOld}, {61, api.ErrNew}, {60, api.ErrLarge}, {50, api.ErrDown}, {19, api.ErrDown}, {61, api.ErrDown}, {60, api.ErrDown}, {least, api.ErrDown}} {
		if e := x.s.Save(y.version); e != y.e {
			t.Errorf("Save(%d): %d, not %d", y.version, e, y.e)
		}
	}
	x.anew()
}

// Of a record that is behind the Saved one in part, at a crash, nothing is there; all of it, if that stands.
func TestTorn(t *testing.T) {
	after := laidBytes(recordBytes(50, pairs("b", "4", "d", "3", "l", "")...))
	for cut := range len(after) + 1 {
		for _, turn := range []byte{0, 1, 0x80, 0xff} {
			x := newPair(t, middle(), busy()...)
			if e := x.p.Add(after); e != api.OK {
				t.Fatal(e)
			}
			x.p.Crash(cut, turn)
			s := open(t, x.p, middle())
			if cut < len(after) {
				x.s = s
				x.q.anew()
				x.same(fmt.Sprint("cut off at ", cut))
				continue
			}
			if got, e := s.List(all(), 50, most); !slices.Equal(got, pairs("b", "4", "d", "3", "l", "")) || e != api.OK {
				t.Errorf("whole: %q, %d", got, e)
			}
		}
	}
}

// Saves with crashes between, at each of some calls.
func TestSaveCrash(t *testing.T) {
	for i := range len(busy()) + 1 {
		for _, keep := range []int{-1, 0, 7, most} {
			x := newPair(t, middle(), busy()[:i]...)
			x.p.Crash(keep, 3)
			x.s = open(t, x.p, middle())
			x.q.anew()
			x.same(fmt.Sprint("behind ", i))
			x.do(take(b(x.q.last, 77, put("k", "7"))), save(77))
			x.anew()
		}
	}
}

// Ties: what goes first where there are two faults.
func TestTies(t *testing.T) {
	x := newPair(t, middle(), busy()...)
	x.refuses(api.ErrOld, get("a", 19), get("m", 0), list(all(), 19, -1), list(of("z", "a"), least, -1))
	x.refuses(api.ErrNew, get("a", 51), get("m", most), list(all(), 51, -1), list(of("z", "a"), most, -1))
	x.refuses(api.ErrForm, take(api.Batch{Prev: 51, Version: 60, Known: -1}), take(api.Batch{Prev: 60, Version: 60, Known: -1}), take(api.Batch{Version: 50, Known: -1}), take(api.Batch{Prev: -1, Version: 60}), take(b(51, 60, put("b", long(99)))))
	x.refuses(api.OK, take(b(51, 50)), take(b(50, 50)), take(b(60, 40)), take(b(most, 0)))
	x.do(take(b(50, 60, filled(t, api.MaxBody).batch.Changes...)))
	x.refuses(api.ErrLarge, save(60))
	small := tapeOf(t, 10, nil)
	y := &pair{t: t, s: open(t, small, middle()), p: small, q: newPlain(middle())}
	y.do(take(b(0, 60, filled(t, api.MaxBody).batch.Changes...)))
	y.refuses(api.ErrLarge, save(60)) // no room either
	small.Fail(0)
	y.refuses(api.ErrLarge, save(60)) // and the tape would go down
	y.refuses(api.ErrOld, save(-1))
	y.refuses(api.ErrNew, save(61))
}

// Memory

// A batch that was given is turned by who gave it, and its spare room is as it was.
func TestMemoryTake(t *testing.T) {
	x := newPair(t, middle(), take(b(0, 5, put("k", "0"))))
	given := make([]api.Change, 0, 8)
	given = append(given, put("b", "1"), wipe("c", "d"), put("a", "2"), put("l", "3"))
	room := given[:8]
	room[4], room[7] = put("d", "spare"), put("e", "spare")
	was := slices.Clone(room)
	x.do(take(b(5, 10, given...)))
	if !slices.Equal(room, was) {
		t.Errorf("given: %v, not %v", room, was)
	}
	for i := range room {
		room[i] = put("f", "turned")
	}
	x.q = newPlain(middle())
	for _, one := range []call{take(b(0, 5, put("k", "0"))), take(b(5, 10, was[:4]...))} {
		one.ofPlain(x.q)
	}
	x.same("turned")
	x.do(take(b(10, 20, put("c", "4"))), save(10))
	x.gives(list(all(), 10, most), answer{list: pairs("b", "1", "k", "0", "l", "3")})
	for i := range room {
		room[i] = wipe("", "z")
	}
	x.same("turned again")
	x.do(save(20))
	x.anew()
}

// Pairs that were answered are turned by who has them, their spare room, too.
func TestMemoryList(t *testing.T) {
	x := newPair(t, middle(), busy()...)
	for range 3 {
		for _, n := range []int{0, 1, 2, most} {
			for _, version := range []int{20, 29, 30, 50} {
				got, _ := x.s.List(all(), version, n)
				other, _ := x.s.List(all(), version, n)
				was := slices.Clone(other)
				for i := range got[:cap(got)] {
					got[:cap(got)][i] = api.Pair{Key: "b", Value: "turned"}
				}
				if !slices.Equal(other, was) {
					t.Errorf("another answer: %q, not %q", other, was)
				}
			}
		}
		x.same("turned")
		x.do(save(x.q.first() + 10))
	}
	x.anew()
}

// Two shelves of two tapes have nothing of each other.
func TestTwo(t *testing.T) {
	batch := b(0, 10, put("b", "1"), put("x", "2"))
	one, two := newPair(t, middle(), take(batch)), newPair(t, of("m", "z"), take(batch))
	one.do(save(10), take(b(10, 20, clearOf("b"))))
	two.do(take(b(10, 30, put("y", "3"))), back(15), save(15))
	one.same("one")
	two.same("two")
	one.gives(list(all(), 10, 9), answer{list: pairs("b", "1")})
	two.gives(list(all(), 15, 9), answer{list: pairs("x", "2")})
	one.anew()
	two.anew()
}
