package book

import (
	"bytes"
	"encoding/binary"
	"fmt"
	"hash/crc32"
	"math"
	"math/rand/v2"
	"slices"
	"strings"
	"testing"

	"roundhouse/api"
	"roundhouse/tape"
)

// most: of a record, in bytes.
const most = api.MaxBody - 4

// laid: records as they stand on a tape, made in another way than the book's.
func laid(list ...string) string {
	var out []byte
	for _, s := range list {
		out = binary.AppendUvarint(out, uint64(len(s)+4))
		out = binary.LittleEndian.AppendUint32(out, crc32.Checksum([]byte(s), crc32.MakeTable(crc32.Castagnoli)))
		out = append(out, s...)
	}
	return string(out)
}

// tapeOf: one with so much room, on which these bytes stand and last.
func tapeOf(t *testing.T, room int, text string) *tape.Tape {
	t.Helper()
	p, e := tape.New(room)
	if e != api.OK || p.Replace([]byte(text)) != api.OK {
		t.Fatalf("no tape of %d bytes in room for %d", len(text), room)
	}
	return p
}

// open: the book on a tape.
func open(t *testing.T, p *tape.Tape) *Book {
	t.Helper()
	b, e := Open(p)
	if b == nil || e != api.OK {
		t.Fatalf("Open: %v, %d", b, e)
	}
	return b
}

// bookOf: one with so much room and these records, and its tape.
func bookOf(t *testing.T, room int, list ...string) (*Book, *tape.Tape) {
	t.Helper()
	p := tapeOf(t, room, laid(list...))
	return open(t, p), p
}

// lists: texts as lists of bytes.
func lists(list ...string) [][]byte {
	out := make([][]byte, len(list))
	for i, s := range list {
		out[i] = []byte(s)
	}
	return out
}

// texts: lists of bytes as texts.
func texts(list [][]byte) []string {
	out := make([]string, len(list))
	for i, s := range list {
		out[i] = string(s)
	}
	return out
}

// brief: texts, and of a long one how long it is.
func brief(list []string) string {
	var out []string
	for _, s := range list {
		if len(s) > 20 {
			s = fmt.Sprintf("%.8s.. (%d)", s, len(s))
		}
		out = append(out, fmt.Sprintf("%q", s))
	}
	return fmt.Sprint(out)
}

// has: are these its records?
func has(t *testing.T, what string, b *Book, want ...string) {
	t.Helper()
	if got := texts(b.Records()); !slices.Equal(got, want) {
		t.Errorf("%s: %s, not %s", what, brief(got), brief(want))
	}
}

// stands: is this what stands on the tape, and lasts?
func stands(t *testing.T, what string, p *tape.Tape, want string) {
	t.Helper()
	if got, e := p.Bytes(); string(got) != want || e != api.OK || p.Loose() != 0 {
		t.Errorf("%s: the tape has %.40q (%d bytes), %d, %d loose; not %.40q (%d bytes)", what, got, len(got), e, p.Loose(), want, len(want))
	}
}

// is: are these its records, in its memory and on its tape, and do they last?
func is(t *testing.T, what string, b *Book, p *tape.Tape, want ...string) {
	t.Helper()
	has(t, what, b, want...)
	stands(t, what, p, laid(want...))
}

// errs: a call's answer, and what it has to be.
func errs(t *testing.T, what string, e, want api.Errno) {
	t.Helper()
	if e != want {
		t.Errorf("%s: %d, not %d", what, e, want)
	}
}

// long: so many bytes.
func long(n int) string { return strings.Repeat("r", n) }

// kinds: the calls that write, by their names.
func kinds() map[string]func(b *Book, list ...[]byte) api.Errno {
	return map[string]func(b *Book, list ...[]byte) api.Errno{"Add": (*Book).Add, "Reset": (*Book).Reset}
}

// some: lists of records of all sorts.
func some() [][]string {
	return [][]string{
		{}, {""}, {"", ""}, {"a"}, {"one", "two", ""}, {"", "x", "", "yz"}, {"\x00", "\xff\xff", "\x80\x01"},
		{long(122), long(123), long(124)}, {long(most)}, {"a", long(most), ""}, {long(most), long(most - 1)},
		{laid("in", "it"), laid()}, {strings.Repeat("\x00", 300)},
	}
}

// P7.1

func TestOpenNil(t *testing.T) {
	if b, e := Open(nil); b != nil || e != api.ErrArg {
		t.Errorf("Open(nil): %v, %d", b, e)
	}
}

func TestOpenEmpty(t *testing.T) {
	for _, room := range []int{0, 1, 100, api.MaxTape} {
		p, _ := tape.New(room)
		p.Fail(0) // there is nothing to be taken away, so nothing is written
		b := open(t, p)
		is(t, fmt.Sprint("room ", room), b, p)
		if b.Records() != nil {
			t.Errorf("room %d: records that are not nil", room)
		}
	}
}

func TestOpenDown(t *testing.T) {
	for _, text := range []string{"", laid("a", "b"), laid("a") + "x"} {
		p := tapeOf(t, 100, text)
		p.Fail(0)
		errs(t, "Sync", p.Sync(), api.ErrDown)
		for range 2 {
			if b, e := Open(p); b != nil || e != api.ErrDown {
				t.Errorf("%q: Open: %v, %d", text, b, e)
			}
		}
		p.Crash(0, 1)
		stands(t, "behind Open that was not done", p, text)
		open(t, p)
	}
}

// Whole records are found as they stand, and nothing is written.
func TestOpen(t *testing.T) {
	for _, list := range some() {
		p := tapeOf(t, api.MaxTape, laid(list...))
		p.Fail(0)
		is(t, brief(list), open(t, p), p, list...)
		p.Fail(-1)
		is(t, brief(list)+" once more", open(t, p), p, list...)
	}
}

func TestOpenManySmall(t *testing.T) {
	list := make([]string, api.MaxTape/5)
	b, p := bookOf(t, api.MaxTape, list...)
	if n := len(b.Records()); n != len(list) {
		t.Errorf("%d records, not %d", n, len(list))
	}
	errs(t, "Add", b.Add(nil), api.ErrFull)
	errs(t, "Reset", b.Reset(), api.OK)
	errs(t, "Add", b.Add(make([][]byte, len(list))...), api.OK)
	is(t, "many small ones", b, p, list...)
}

// flip: a text with one bit turned.
func flip(s string, bit int) string {
	b := []byte(s)
	b[bit/8] ^= 1 << (bit % 8)
	return string(b)
}

// noRecords: bytes that begin with no record.
func noRecords() map[string]string {
	out := map[string]string{
		"a text of no bytes":             "\x00",
		"a text of one byte":             "\x01\x00",
		"a text of two bytes":            "\x02\x00\x00",
		"a text of three bytes":          "\x03\x00\x00\x00",
		"a sum of no bytes, in more":     "\x84\x00\x00\x00\x00\x00",
		"a number without an end":        "\x84",
		"a number of too many bytes":     strings.Repeat("\xff", 9) + "\x01",
		"the greatest number":            strings.Repeat("\xff", 8) + "\x7f",
		"too large a text":               laid(long(most + 1)),
		"much too large a text":          laid(long(2 * most)),
		"a sum alone that is another's":  "\x04\x01\x00\x00\x00",
		"a text that is not sealed":      "\x08abcdefgh",
		"a sum with the highest first":   "\x0d" + "\xe3\x06\x92\x83" + "123456789",
		"a sum behind what it is of":     "\x0d" + "123456789" + "\x83\x92\x06\xe3",
		"a sum whose bits are turned":    "\x04\xff\xff\xff\xff",
		"a sealed record without number": laid("abc")[1:],
	}
	for _, s := range []string{"", "abc", long(124), strings.Repeat("\x00", 130)} {
		whole := laid(s)
		for cut := 1; cut < len(whole); cut++ {
			out[fmt.Sprintf("%.4q (%d) cut off at %d", s, len(s), cut)] = whole[:cut]
		}
		for bit := range 8 * len(whole) {
			out[fmt.Sprintf("%.4q (%d) with bit %d turned", s, len(s), bit)] = flip(whole, bit)
		}
	}
	whole := laid(long(most))
	for _, cut := range []int{1, 2, 3, 4, 6, 7, 8, most / 2, len(whole) - 1} {
		out[fmt.Sprintf("the longest cut off at %d", cut)] = whole[:cut]
	}
	for _, bit := range []int{0, 7, 8, 16, 23, 24, 55, 56, 8*len(whole) - 1} {
		out[fmt.Sprintf("the longest with bit %d turned", bit)] = flip(whole, bit)
	}
	return out
}

// What is left behind the last record is taken away, whole records behind it, too.
func TestOpenLeft(t *testing.T) {
	for what, left := range noRecords() {
		for _, list := range [][]string{{}, {""}, {"one", "", "three"}} {
			ahead := laid(list...)
			tails := []string{""}
			if !strings.Contains(what, "cut off") { // of a text that is cut off bytes behind it would be part
				tails = append(tails, laid("late"), laid("", "later", long(200)))
			}
			for _, tail := range tails {
				p := tapeOf(t, api.MaxTape, ahead+left+tail)
				b := open(t, p)
				is(t, what, b, p, list...)
				p.Crash(0, 1)
				is(t, what+", crashed", open(t, p), p, list...)
				errs(t, what+", Add", b.Add([]byte("new")), api.OK)
				is(t, what+", Add", b, p, append(slices.Clone(list), "new")...)
			}
		}
	}
}

// Bytes that do not last yet are read like any others, and what is left of them is taken away.
func TestOpenLoose(t *testing.T) {
	p := tapeOf(t, 100, laid("a"))
	errs(t, "the tape's Add", p.Add([]byte(laid("b"))), api.OK)
	has(t, "loose", open(t, p), "a", "b")
	if p.Loose() != len(laid("b")) {
		t.Errorf("loose: %d", p.Loose())
	}
	errs(t, "the tape's Add", p.Add([]byte("x")), api.OK)
	is(t, "replaced", open(t, p), p, "a", "b")
	b, p := bookOf(t, 100)
	errs(t, "the tape's Add", p.Add([]byte(laid("b"))), api.OK)
	b = open(t, p)
	errs(t, "Add", b.Add([]byte("c")), api.OK)
	is(t, "Add's Sync", b, p, "b", "c")
}

// A Replace in Open that the tape refuses.
func TestOpenRefused(t *testing.T) {
	for _, list := range [][]string{{}, {""}, {"one", "", "three"}} {
		text := laid(list...) + laid("cut off")[:7]
		for _, keep := range []int{math.MinInt, 0, 3, math.MaxInt} {
			for _, turn := range []byte{0, 1} {
				p := tapeOf(t, 100, text)
				p.Fail(0)
				if b, e := Open(p); b != nil || e != api.ErrDown {
					t.Errorf("%s: Open: %v, %d", brief(list), b, e)
				}
				if b, e := Open(p); b != nil || e != api.ErrDown {
					t.Errorf("%s: Open of what is down: %v, %d", brief(list), b, e)
				}
				p.Crash(keep, turn)
				stands(t, brief(list), p, text)
				is(t, brief(list), open(t, p), p, list...)
			}
		}
	}
}

// Open writes once, where it has to.
func TestOpenWritesOnce(t *testing.T) {
	p := tapeOf(t, 100, laid("a")+"x")
	p.Fail(1)
	b := open(t, p)
	is(t, "Fail(1)", b, p, "a")
	errs(t, "Reset", b.Reset(), api.ErrDown)
}

func TestNil(t *testing.T) {
	var b *Book
	for range 2 {
		if l := b.Records(); l != nil {
			t.Errorf("Records: %q", l)
		}
		for name, call := range kinds() {
			for _, list := range [][]string{{}, {""}, {"a", "b"}, {long(most + 1)}} {
				errs(t, name+" "+brief(list), call(b, lists(list...)...), api.ErrArg)
			}
		}
	}
}

// A book without a tape: no call of it panics, either.
func TestNoTape(t *testing.T) {
	var b Book
	for name, call := range kinds() {
		for _, list := range [][]string{{}, {""}, {"a", "b"}} {
			errs(t, name+" "+brief(list), call(&b, lists(list...)...), api.ErrArg)
		}
	}
	has(t, "no tape", &b)
}

// What is answered is the caller's: nothing of it, nor of its spare room, is the book's or another answer's.
func TestRecordsChanged(t *testing.T) {
	want := []string{"one", "", "three", "four"}
	b, p := bookOf(t, 1000, want[:2]...)
	errs(t, "Add", b.Add(lists(want[2:]...)...), api.OK)
	first, second := b.Records(), b.Records()
	for _, l := range first {
		l = l[:cap(l)]
		for i := range l {
			l[i] = '!'
		}
	}
	if got := texts(second); !slices.Equal(got, want) {
		t.Errorf("another answer: %s", brief(got))
	}
	is(t, "bytes of records changed", b, p, want...)
	first = first[:cap(first)]
	for i := range first {
		first[i] = []byte("!!")
	}
	if got := texts(second); !slices.Equal(got, want) {
		t.Errorf("another answer: %s", brief(got))
	}
	is(t, "records changed", b, p, want...)
	errs(t, "Add", b.Add([]byte("five")), api.OK)
	is(t, "Add", b, p, append(want, "five")...)
	if got := texts(second); !slices.Equal(got, want) {
		t.Errorf("behind Add another answer: %s", brief(got))
	}
}

func TestTwoBooks(t *testing.T) {
	a, p := bookOf(t, 20, "a")
	b, q := bookOf(t, 100, "b")
	p.Fail(0)
	errs(t, "Add", a.Add(nil), api.ErrDown)
	errs(t, "Add", b.Add([]byte("c")), api.OK)
	has(t, "the one", a, "a")
	is(t, "the other", b, q, "b", "c")
}

// P7.2

func TestAdd(t *testing.T) {
	for _, ahead := range some() {
		b, p := bookOf(t, api.MaxTape, ahead...)
		want := slices.Clone(ahead)
		for _, list := range some() {
			errs(t, "Add "+brief(list), b.Add(lists(list...)...), api.OK)
			want = append(want, list...)
			is(t, brief(ahead)+", Add "+brief(list), b, p, want...)
		}
		p.Crash(0, 1)
		is(t, "anew", open(t, p), p, want...)
	}
}

func TestReset(t *testing.T) {
	for _, ahead := range some() {
		for _, list := range some() {
			b, p := bookOf(t, api.MaxTape, ahead...)
			what := brief(ahead) + ", Reset " + brief(list)
			errs(t, what, b.Reset(lists(list...)...), api.OK)
			is(t, what, b, p, list...)
			errs(t, what+", Add", b.Add([]byte("more")), api.OK)
			want := append(slices.Clone(list), "more")
			is(t, what+", Add", b, p, want...)
			p.Crash(0, 1)
			is(t, what+", anew", open(t, p), p, want...)
		}
	}
}

// Add writes by the tape's Add and its Sync, Reset by its Replace, once each, without records, too.
func TestCallsOfTape(t *testing.T) {
	for name, calls := range map[string]int{"Add": 2, "Reset": 1} {
		for _, list := range [][]string{{}, {""}, {"a", "b", "c"}} {
			for after := range 4 {
				b, p := bookOf(t, 100, "was")
				p.Fail(after)
				want := api.OK
				if after < calls {
					want = api.ErrDown
				}
				errs(t, fmt.Sprintf("Fail(%d), %s %s", after, name, brief(list)), kinds()[name](b, lists(list...)...), want)
			}
		}
	}
}

func TestLarge(t *testing.T) {
	large := long(most + 1)
	for name, call := range kinds() {
		for _, size := range []int{most + 1, most + 2, api.MaxBody, api.MaxBody + 1, api.MaxTape, api.MaxTape + 1} {
			b, p := bookOf(t, api.MaxTape, "was")
			errs(t, fmt.Sprint(name, " of ", size), call(b, []byte(long(size))), api.ErrLarge)
			is(t, fmt.Sprint(name, " of ", size), b, p, "was")
		}
		for _, list := range [][]string{{large, "a"}, {"a", large}, {"", large, ""}, {long(most), large}, {large, large}} {
			b, p := bookOf(t, api.MaxTape, "was", "and is")
			p.Fail(0) // it goes down with nothing that is too large
			errs(t, name+" "+brief(list), call(b, lists(list...)...), api.ErrLarge)
			is(t, name+" "+brief(list), b, p, "was", "and is")
			p.Fail(-1)
			errs(t, name, call(b, []byte(long(most))), api.OK)
		}
	}
}

// ErrLarge comes ahead of what the tape says, behind what this book said.
func TestLargeFirst(t *testing.T) {
	for name, call := range kinds() {
		large := []byte(long(most + 1))
		b, p := bookOf(t, 10)
		errs(t, name+" without room", call(b, large), api.ErrLarge)
		is(t, name+" without room", b, p)
		p.Fail(0)
		errs(t, "the tape's Sync", p.Sync(), api.ErrDown)
		errs(t, name+" of one that is down", call(b, large), api.ErrLarge)
		errs(t, name+" of one that is down", call(b, []byte("a")), api.ErrDown)
		errs(t, name+" of a book that said so", call(b, large), api.ErrDown)
	}
}

// The room is filled to its last byte, and not by one byte more.
func TestRoom(t *testing.T) {
	for _, c := range []struct{ ahead, list []string }{
		{nil, nil}, {nil, []string{""}}, {nil, []string{"abc"}}, {[]string{"a"}, []string{"b", "", "cd"}}, {[]string{"", "x"}, []string{""}},
		{nil, []string{long(123), long(124)}}, {[]string{"a"}, []string{long(most)}}, {[]string{long(most)}, []string{"", long(most), "z"}},
		{[]string{"a", "b"}, nil},
	} {
		all := append(slices.Clone(c.ahead), c.list...)
		room := len(laid(all...))
		b, p := bookOf(t, room, c.ahead...)
		what := brief(c.ahead) + ", Add " + brief(c.list)
		more := append(lists(c.list...), nil)
		if len(c.list) > 0 {
			more = lists(c.list...)
			more[len(more)-1] = append(more[len(more)-1], 'x')
		}
		errs(t, what+" and a byte more", b.Add(more...), wantFull(more))
		is(t, what+" and a byte more", b, p, c.ahead...)
		errs(t, what, b.Add(lists(c.list...)...), api.OK)
		is(t, what, b, p, all...)
		errs(t, what+" and one more", b.Add(nil), api.ErrFull)
		is(t, what+" and one more", b, p, all...)
		p.Crash(0, 1)
		is(t, what+", anew", open(t, p), p, all...)
	}
}

// wantFull: what is told of records that find no room: ErrLarge, if one is too large besides.
func wantFull(list [][]byte) api.Errno {
	for _, r := range list {
		if len(r) > most {
			return api.ErrLarge
		}
	}
	return api.ErrFull
}

// Reset asks for room for its records alone, whatever stood there.
func TestRoomOfReset(t *testing.T) {
	for _, list := range [][]string{{""}, {"a", "b", "", "c"}, {long(123)}, {long(124)}, {long(most)}, {"", long(most - 1), "x"}} {
		room := len(laid(list...))
		for _, ahead := range [][]string{{}, {""}, {long(room - 5)}, list} {
			if len(laid(ahead...)) > room {
				continue
			}
			b, p := bookOf(t, room, ahead...)
			what := brief(ahead) + ", Reset " + brief(list)
			more := lists(list...)
			more[len(more)-1] = append(more[len(more)-1], 'x')
			errs(t, what+" and a byte more", b.Reset(more...), wantFull(more))
			is(t, what+" and a byte more", b, p, ahead...)
			errs(t, what+" and one more", b.Reset(append(lists(list...), nil)...), api.ErrFull)
			is(t, what+" and one more", b, p, ahead...)
			errs(t, what, b.Reset(lists(list...)...), api.OK)
			is(t, what, b, p, list...)
			p.Crash(0, 1)
			is(t, what+", anew", open(t, p), p, list...)
		}
	}
}

func TestMostRoom(t *testing.T) {
	b, p := bookOf(t, api.MaxTape)
	var want []string
	for range api.MaxTape / (3 + 4 + most) { // of each a number, a sum, and the record
		errs(t, "Add", b.Add([]byte(long(most))), api.OK)
		want = append(want, long(most))
	}
	left := api.MaxTape - len(laid(want...))
	last := long(left - 4 - 3)
	if len(laid(last)) != left {
		t.Fatalf("%d bytes are left, %d are laid down", left, len(laid(last)))
	}
	errs(t, "Add", b.Add([]byte(last+"r")), api.ErrFull)
	is(t, "a byte more", b, p, want...)
	errs(t, "Add", b.Add([]byte(last)), api.OK)
	is(t, "to the last byte", b, p, append(want, last)...)
	errs(t, "Add", b.Add(nil), api.ErrFull)
	errs(t, "Reset", b.Reset(append(b.Records(), nil)...), api.ErrFull)
	is(t, "one more", b, p, append(want, last)...)
	errs(t, "Reset", b.Reset(b.Records()...), api.OK)
	is(t, "all anew", b, p, append(want, last)...)
}

// Behind ErrFull the book goes on, and it brings no tape down.
func TestBehindFull(t *testing.T) {
	b, p := bookOf(t, 12, "ab")
	p.Fail(3)
	for range 5 {
		errs(t, "Add", b.Add([]byte("x")), api.ErrFull)
		errs(t, "Reset", b.Reset([]byte("12345678")), api.ErrFull)
		is(t, "full", b, p, "ab")
	}
	errs(t, "Add", b.Add(nil), api.OK)
	is(t, "Add", b, p, "ab", "")
	errs(t, "Add", b.Add(nil), api.ErrFull)
	errs(t, "Reset", b.Reset([]byte("1234567")), api.OK)
	is(t, "Reset", b, p, "1234567")
	errs(t, "Add", b.Add(nil), api.ErrFull)
	errs(t, "Reset", b.Reset(), api.ErrDown)
}

// What is handed in is neither changed nor kept, its spare room included.
func TestHandedIn(t *testing.T) {
	for name, call := range kinds() {
		list := make([][]byte, 3, 5)
		whole := []byte("onetwo--")
		list[0], list[1], list[2] = whole[:3], whole[3:6], nil
		spare := list[:5]
		spare[3], spare[4] = []byte("spare"), []byte("room")
		b, p := bookOf(t, 100)
		errs(t, name, call(b, list...), api.OK)
		errs(t, "Add", b.Add([]byte("x")), api.OK)
		if string(whole) != "onetwo--" || !slices.Equal(texts(spare), []string{"one", "two", "", "spare", "room"}) {
			t.Errorf("%s: what was handed in is now %q, %q", name, whole, spare)
		}
		for i := range whole {
			whole[i] = '!'
		}
		for i := range spare {
			spare[i] = []byte("!")
		}
		is(t, name+", list changed behind it", b, p, "one", "two", "", "x")
	}
}

// What Records answered is no part of the book when it is handed in again.
func TestAnswerHandedIn(t *testing.T) {
	b, p := bookOf(t, 200, "one", "two")
	l := b.Records()
	errs(t, "Add", b.Add(l...), api.OK)
	is(t, "Add", b, p, "one", "two", "one", "two")
	errs(t, "Reset", b.Reset(l[1], l[0], l[1]), api.OK)
	l[0][0], l[1] = '!', nil
	is(t, "Reset", b, p, "two", "one", "two")
}

// P7.3

// Each call behind ErrDown answers so, and the tape's crash does not change that.
func TestDown(t *testing.T) {
	for name, call := range kinds() {
		for after := range 2 {
			b, p := bookOf(t, 100, "was", "")
			if after > 0 && name == "Reset" {
				errs(t, "Reset", b.Reset(lists("was", "")...), api.OK)
				after = 0
			}
			p.Fail(after)
			errs(t, name, call(b, lists("a", "b")...), api.ErrDown)
			downAll(t, name, b)
			p.Crash(100, 0)
			text, _ := p.Bytes()
			downAll(t, name+", crashed", b)
			stands(t, name+", crashed", p, string(text))
		}
	}
}

// downAll: does it answer ErrDown to all, and have the records that were?
func downAll(t *testing.T, what string, b *Book) {
	t.Helper()
	for range 2 {
		for name, call := range kinds() {
			for _, list := range [][]string{{}, {""}, {"a", "b"}, {long(200)}, {long(most + 1)}} {
				errs(t, what+", then "+name+" "+brief(list), call(b, lists(list...)...), api.ErrDown)
			}
		}
		has(t, what, b, "was", "")
	}
}

// Another one's call that brings the tape down is not the book's, till it asks.
func TestDownByOther(t *testing.T) {
	b, p := bookOf(t, 100, "was")
	p.Fail(0)
	errs(t, "the tape's Add", p.Add(nil), api.ErrDown)
	has(t, "down", b, "was")
	errs(t, "Add", b.Add([]byte("a")), api.ErrDown)
	has(t, "down", b, "was")
	p.Crash(0, 0)
	errs(t, "Add", b.Add([]byte("a")), api.ErrDown)
	is(t, "anew", open(t, p), p, "was")
}

// whole: how many first ones of list stand wholly in so many bytes.
func whole(size int, list []string) int {
	n := 0
	for n < len(list) && len(laid(list[:n+1]...)) <= size {
		n++
	}
	return n
}

// adds: what is there, and what is added to it when the tape goes down.
func adds() []struct{ was, list []string } {
	return []struct{ was, list []string }{
		{nil, nil}, {nil, []string{""}}, {nil, []string{"", "", ""}}, {[]string{"was"}, []string{"one", "two", ""}},
		{[]string{"", "was"}, []string{"", "x", "", "\x00\x00\x00\x00\x00"}}, {[]string{long(124)}, []string{"ab", long(123), long(124), "c"}},
		{[]string{"was"}, []string{strings.Repeat("\x00", 130), strings.Repeat("\xff", 130)}},
		{[]string{"was", "", "and is"}, []string{laid("in", ""), "\x04\x00\x00\x00\x00"}},
	}
}

// A crash that keeps each number of bytes of what Add wrote, when the tape went down in its Sync.
func TestAddCrash(t *testing.T) {
	for _, c := range adds() {
		size := len(laid(c.list...))
		for keep := -1; keep <= size+1; keep++ {
			for _, turn := range []byte{0, 1, 4, 0x80, 0x84, 0xff} {
				b, p := bookOf(t, 2000, c.was...)
				p.Fail(1)
				errs(t, "Add", b.Add(lists(c.list...)...), api.ErrDown)
				p.Crash(keep, turn)
				want := append(slices.Clone(c.was), c.list[:whole(keep, c.list)]...)
				what := fmt.Sprintf("%s, Add %s, Crash(%d, %d)", brief(c.was), brief(c.list), keep, turn)
				b = open(t, p)
				is(t, what, b, p, want...)
				errs(t, what+", Add", b.Add([]byte("more")), api.OK)
				is(t, what+", Add", b, p, append(want, "more")...)
			}
		}
	}
}

// A byte that is turned, by any turn, makes no record of what was cut off.
func TestAddEachTurn(t *testing.T) {
	list := []string{"", "ab", "\x00\x00", long(125)}
	for keep := range len(laid(list...)) {
		for turn := range 256 {
			b, p := bookOf(t, 200)
			p.Fail(1)
			errs(t, "Add", b.Add(lists(list...)...), api.ErrDown)
			p.Crash(keep, byte(turn))
			is(t, fmt.Sprintf("Crash(%d, %d)", keep, turn), open(t, p), p, list[:whole(keep, list)]...)
		}
	}
}

// A tape that went down in Add's Add has nothing of it, and in Reset's Replace nothing of that.
func TestNothingCrash(t *testing.T) {
	for name, call := range kinds() {
		for _, c := range adds() {
			for _, own := range []bool{false, true} { // were the records that were the book's own?
				size := len(laid(append(slices.Clone(c.was), c.list...)...))
				for keep := -1; keep <= size+1; keep++ {
					for _, turn := range []byte{0, 1, 0xff} {
						b, p := bookOf(t, 2000, c.was...)
						if own {
							errs(t, "Add", b.Add(lists("own")...), api.OK)
							errs(t, "Reset", b.Reset(lists(c.was...)...), api.OK)
						}
						p.Fail(0)
						what := fmt.Sprintf("%s, %s %s, Crash(%d, %d)", brief(c.was), name, brief(c.list), keep, turn)
						errs(t, what, call(b, lists(c.list...)...), api.ErrDown)
						p.Crash(keep, turn)
						is(t, what, open(t, p), p, c.was...)
					}
				}
			}
		}
	}
}

// All promises together

// plain: a book and its tape as the words say it.
type plain struct {
	room        int
	was, loose  []string // records that last, and that may not
	left        int      // bytes behind the last one of them
	gone, down  bool     // is there no book; is the tape down?
	after, done int      // the tape has to go down with the call behind so many; so many were done since
}

// write: a call of the tape.
func (q *plain) write() api.Errno {
	if q.after >= 0 && q.done >= q.after {
		q.down = true
		return api.ErrDown
	}
	q.done++
	return api.OK
}

// refuse: what is told ahead of any call of the tape that leaves these records.
func (q *plain) refuse(all []string) api.Errno {
	switch {
	case q.gone:
		return api.ErrArg
	case q.down:
		return api.ErrDown
	case slices.ContainsFunc(all, func(s string) bool { return len(s) > most }):
		return api.ErrLarge
	case len(laid(all...)) > q.room:
		return api.ErrFull
	}
	return api.OK
}

func (q *plain) add(list []string) api.Errno {
	if e := q.refuse(append(slices.Clone(q.was), list...)); e != api.OK {
		return e
	}
	if e := q.write(); e != api.OK {
		return e
	}
	q.loose = list
	if e := q.write(); e != api.OK {
		return e
	}
	q.was, q.loose = append(slices.Clone(q.was), list...), nil
	return api.OK
}

func (q *plain) reset(list []string) api.Errno {
	if e := q.refuse(list); e != api.OK {
		return e
	}
	if e := q.write(); e != api.OK {
		return e
	}
	q.was = list
	return api.OK
}

func (q *plain) crash(keep int, turn byte) {
	size := len(laid(q.loose...))
	keep = min(max(keep, 0), size)
	n := whole(keep, q.loose)
	if size > 0 {
		q.left = keep - len(laid(q.loose[:n]...))
		if keep < size && turn != 0 {
			q.left++
		}
	}
	q.was, q.loose = append(slices.Clone(q.was), q.loose[:n]...), nil
	q.down, q.after = false, -1
}

func (q *plain) open() api.Errno {
	q.gone = true
	if q.down {
		return api.ErrDown
	}
	if q.left > 0 {
		if e := q.write(); e != api.OK {
			return e
		}
	}
	q.gone, q.left = false, 0
	return api.OK
}

// pair: a book on a tape, and one as the words say it.
type pair struct {
	b *Book
	p *tape.Tape
	q *plain
}

// step: one call of both: are the answers the same?
type step struct {
	name string
	do   func(x *pair) bool
}

func steps(size int) []step {
	var out []step
	for _, list := range [][]string{{}, {""}, {"a", "", "bc"}, {"defghi", "j"}, {"k", long(size)}, {"l", long(most + 1)}} {
		out = append(out,
			step{"add " + brief(list), func(x *pair) bool { return x.b.Add(lists(list...)...) == x.q.add(list) }},
			step{"reset " + brief(list), func(x *pair) bool { return x.b.Reset(lists(list...)...) == x.q.reset(list) }})
	}
	for _, n := range []int{0, 1, 2, 3} {
		out = append(out, step{fmt.Sprint("fail ", n), func(x *pair) bool {
			x.p.Fail(n)
			x.q.after, x.q.done = n, 0
			return true
		}})
	}
	for _, keep := range []int{0, 1, 5, 7, 12, 14, 1000} {
		for _, turn := range []byte{0, 3} {
			for _, after := range []int{-1, 0} {
				out = append(out, step{fmt.Sprint("crash ", keep, " ", turn, ", fail ", after, ", open"), func(x *pair) bool {
					x.p.Crash(keep, turn)
					x.q.crash(keep, turn)
					x.p.Fail(after)
					x.q.after, x.q.done = after, 0
					var e api.Errno
					x.b, e = Open(x.p)
					return e == x.q.open() && (x.b == nil) == (e != api.OK)
				}})
			}
		}
	}
	return append(out, step{"open", func(x *pair) bool {
		if x.q.down && !x.q.gone { // the elder one stays the newest that there is
			_, e := Open(x.p)
			return e == api.ErrDown
		}
		var e api.Errno
		x.b, e = Open(x.p)
		return e == x.q.open()
	}})
}

// same: is the book, and its tape, what the words say?
func (x *pair) same() bool {
	if x.q.gone {
		return x.b == nil
	}
	text, e := x.p.Bytes()
	if !slices.Equal(texts(x.b.Records()), x.q.was) {
		return false
	}
	if x.q.down {
		return e == api.ErrDown && x.p.Loose() == len(laid(x.q.loose...))
	}
	return e == api.OK && x.p.Loose() == 0 && bytes.Equal(text, []byte(laid(x.q.was...)))
}

// walk goes this way with a new book, and fails where it is not what the words say. Of the way only the last steps are asked about, from the given one on.
func walk(t *testing.T, room int, way []step, asked int) {
	t.Helper()
	b, p := bookOf(t, room)
	x := &pair{b: b, p: p, q: &plain{room: room, after: -1}}
	for i, s := range way {
		if !s.do(x) || i >= asked && !x.same() {
			text, e := x.p.Bytes()
			t.Fatalf("room %d: at %d: %s, tape %q, %d; want %+v: %v", room, i, brief(texts(x.b.Records())), text, e, *x.q, names(way[:i+1]))
		}
	}
}

func names(way []step) []string {
	var out []string
	for _, s := range way {
		out = append(out, s.name)
	}
	return out
}

// All ways of a few calls.
func TestShortWays(t *testing.T) {
	all := slices.DeleteFunc(steps(3), func(s step) bool { return strings.Contains(s.name, "(65533)") })
	var further func(way []step, more int)
	further = func(way []step, more int) {
		walk(t, 30, way, len(way)-1) // the elder steps were asked about when they were the last ones
		if more == 0 {
			return
		}
		for _, s := range all {
			further(append(way[:len(way):len(way)], s), more-1)
		}
	}
	further(nil, 3)
}

// Some ways of many calls, the same ones each time.
func TestLongWays(t *testing.T) {
	pick := rand.New(rand.NewPCG(7, 1))
	for _, room := range []int{0, 4, 5, 12, 20, 40, 300, 1000} {
		all := steps(room / 2)
		for range 60 {
			way := make([]step, 40)
			for i := range way {
				way[i] = all[pick.IntN(len(all))]
			}
			walk(t, room, way, 0)
		}
	}
}
