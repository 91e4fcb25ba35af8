package bag

import (
	"fmt"
	"math"
	"math/rand/v2"
	"strings"
	"testing"

	"roundhouse/api"
	"roundhouse/frame"
)

// most: of a message, in bytes.
const most = 2 * api.MaxBody

// letter: a message as the words say it.
type letter struct {
	to     int
	text   string
	spoilt bool
}

// bag: a new one with so much room.
func bag(t *testing.T, room int) *Bag {
	t.Helper()
	b, e := New(room)
	if b == nil || e != api.OK {
		t.Fatalf("New(%d): %v, %d", room, b, e)
	}
	return b
}

// filled: one with so much room, and these texts, the first one to 1, the next one to 2, and so on.
func filled(t *testing.T, room int, list ...string) *Bag {
	t.Helper()
	b := bag(t, room)
	for i, s := range list {
		send(t, b, i+1, s, api.OK)
	}
	return b
}

// sorted: letters to rising numbers from 1 on.
func sorted(list ...string) []letter {
	var out []letter
	for i, s := range list {
		out = append(out, letter{to: i + 1, text: s})
	}
	return out
}

// same: are these all that are in it? If not, where it is another one.
func same(b *Bag, want []letter) string {
	if b.Len() != len(want) {
		return fmt.Sprintf("Len: %d, not %d", b.Len(), len(want))
	}
	for i, m := range want {
		if to, text, e := b.Look(i); to != m.to || string(text) != m.text || e != api.OK {
			return fmt.Sprintf("Look(%d): %d, %.20q (%d bytes), %d; not %d, %.20q (%d bytes)", i, to, text, len(text), e, m.to, m.text, len(m.text))
		}
	}
	for _, i := range []int{math.MinInt, -1, len(want), len(want) + 1, math.MaxInt} {
		if to, text, e := b.Look(i); to != 0 || text != nil || e != api.ErrNone {
			return fmt.Sprintf("Look(%d): %d, %q, %d; not ErrNone", i, to, text, e)
		}
	}
	return ""
}

// is: are these all that are in it?
func is(t *testing.T, what string, b *Bag, want ...letter) {
	t.Helper()
	if fault := same(b, want); fault != "" {
		t.Errorf("%s: %s", what, fault)
	}
}

// errs: a call's answer, and what it has to be.
func errs(t *testing.T, what string, e, want api.Errno) {
	t.Helper()
	if e != want {
		t.Errorf("%s: %d, not %d", what, e, want)
	}
}

func send(t *testing.T, b *Bag, to int, s string, want api.Errno) {
	t.Helper()
	errs(t, fmt.Sprintf("Send(%d, %.20q (%d bytes))", to, s, len(s)), b.Send(to, []byte(s)), want)
}

func twin(t *testing.T, b *Bag, i int, want api.Errno) {
	t.Helper()
	errs(t, fmt.Sprintf("Twin(%d)", i), b.Twin(i), want)
}

func spoil(t *testing.T, b *Bag, i, at int, turn byte, want api.Errno) {
	t.Helper()
	errs(t, fmt.Sprintf("Spoil(%d, %d, %d)", i, at, turn), b.Spoil(i, at, turn), want)
}

// take: the i-th is this one.
func take(t *testing.T, b *Bag, i, to int, s string) {
	t.Helper()
	if n, text, e := b.Take(i); n != to || string(text) != s || e != api.OK {
		t.Errorf("Take(%d): %d, %.20q, %d; not %d, %.20q", i, n, text, e, to, s)
	}
}

// none: there is no i-th, whoever asks for it.
func none(t *testing.T, b *Bag, i int) {
	t.Helper()
	if to, text, e := b.Look(i); to != 0 || text != nil || e != api.ErrNone {
		t.Errorf("Look(%d): %d, %q, %d", i, to, text, e)
	}
	if to, text, e := b.Take(i); to != 0 || text != nil || e != api.ErrNone {
		t.Errorf("Take(%d): %d, %q, %d", i, to, text, e)
	}
	twin(t, b, i, api.ErrNone)
	for _, at := range []int{math.MinInt, -1, 0, 1, math.MaxInt} {
		spoil(t, b, i, at, 0, api.ErrNone)
		spoil(t, b, i, at, 1, api.ErrNone)
	}
}

// long: so many bytes.
func long(n int) string { return strings.Repeat("b", n) }

// P8.1

func TestNew(t *testing.T) {
	for _, room := range []int{math.MinInt, -2, -1, api.MaxBag + 1, 2 * api.MaxBag, math.MaxInt} {
		if b, e := New(room); b != nil || e != api.ErrArg {
			t.Errorf("New(%d): %v, %d", room, b, e)
		}
	}
	for _, room := range []int{0, 1, 2, api.MaxBag - 1, api.MaxBag} {
		b := bag(t, room)
		is(t, "a new one", b)
		none(t, b, 0)
	}
}

func TestNil(t *testing.T) {
	var b *Bag
	for _, s := range []string{"", "a", long(most), long(most + 1)} {
		for _, to := range []int{-1, 0, 255, 256} {
			send(t, b, to, s, api.ErrArg)
		}
	}
	if b.Len() != 0 {
		t.Errorf("Len: %d", b.Len())
	}
	for _, i := range []int{math.MinInt, -1, 0, 1, math.MaxInt} {
		if to, text, e := b.Look(i); to != 0 || text != nil || e != api.ErrArg {
			t.Errorf("Look(%d): %d, %q, %d", i, to, text, e)
		}
		if to, text, e := b.Take(i); to != 0 || text != nil || e != api.ErrArg {
			t.Errorf("Take(%d): %d, %q, %d", i, to, text, e)
		}
		twin(t, b, i, api.ErrArg)
		for _, at := range []int{-1, 0, 1} {
			spoil(t, b, i, at, 0, api.ErrArg)
			spoil(t, b, i, at, 1, api.ErrArg)
		}
	}
}

// One that New did not make has room for none.
func TestWithoutNew(t *testing.T) {
	b := new(Bag)
	is(t, "as it is", b)
	send(t, b, 1, "a", api.ErrFull)
	send(t, b, 256, "a", api.ErrArg)
	none(t, b, 0)
	is(t, "behind all calls", b)
}

func TestTwoBags(t *testing.T) {
	a, b := filled(t, 2, "one", "two"), filled(t, 2, "eins")
	send(t, a, 1, "x", api.ErrFull)
	send(t, b, 2, "zwei", api.OK)
	take(t, a, 0, 1, "one")
	spoil(t, a, 0, 0, 1, api.OK)
	is(t, "the one", a, letter{to: 2, text: "uwo"})
	is(t, "the other one", b, sorted("eins", "zwei")...)
	spoil(t, b, 1, 0, 1, api.OK)
}

func TestSend(t *testing.T) {
	b := bag(t, 300)
	var want []letter
	for to := range 256 {
		s := string([]byte{byte(to), 0, 255})[:to%4]
		send(t, b, to, s, api.OK)
		want = append(want, letter{to: to, text: s})
		if b.Len() != to+1 {
			t.Fatalf("Len: %d, not %d", b.Len(), to+1)
		}
	}
	is(t, "to each", b, want...)
}

func TestTo(t *testing.T) {
	b := bag(t, 9)
	for _, to := range []int{math.MinInt, -256, -2, -1, 256, 257, 511, 512, 1 << 32, math.MaxInt} {
		send(t, b, to, "a", api.ErrArg)
		send(t, b, to, "", api.ErrArg)
	}
	is(t, "to nobody", b)
	for _, to := range []int{0, 1, 254, 255} {
		send(t, b, to, "a", api.OK)
	}
	is(t, "to some", b, letter{to: 0, text: "a"}, letter{to: 1, text: "a"}, letter{to: 254, text: "a"}, letter{to: 255, text: "a"})
}

func TestTexts(t *testing.T) {
	b := bag(t, 9)
	for _, s := range []string{long(most + 1), long(most + 2), long(2*most + 1)} {
		send(t, b, 1, s, api.ErrLarge)
	}
	is(t, "too large ones", b)
	if e := b.Send(1, nil); e != api.OK {
		t.Errorf("Send(nil): %d", e)
	}
	list := []string{"", "", "a", long(api.MaxBody), long(api.MaxBody + 1), long(most - 1), long(most)}
	for i, s := range list[1:] {
		send(t, b, i+2, s, api.OK)
	}
	is(t, "all lengths", b, sorted(list...)...)
	for i, s := range list {
		take(t, b, 0, i+1, s)
	}
	is(t, "behind all", b)
}

func TestFull(t *testing.T) {
	for _, room := range []int{0, 1, 2, 3, 100, api.MaxBag} {
		b := bag(t, room)
		var want []letter
		for i := range room {
			s := fmt.Sprint(i)
			send(t, b, i%256, s, api.OK)
			want = append(want, letter{to: i % 256, text: s})
		}
		send(t, b, 1, "x", api.ErrFull)
		send(t, b, 1, "", api.ErrFull)
		is(t, fmt.Sprint("full of ", room), b, want...)
		if room == 0 {
			continue
		}
		take(t, b, 0, want[0].to, want[0].text)
		send(t, b, 7, "y", api.OK)
		send(t, b, 7, "z", api.ErrFull)
		is(t, fmt.Sprint("full of ", room, " again"), b, append(want[1:], letter{to: 7, text: "y"})...)
	}
}

// Where several errors apply, the one that the chapter names first.
func TestTies(t *testing.T) {
	full, some := filled(t, 2, "one", "two"), filled(t, 3, "one", "two")
	for _, to := range []int{-1, 256} {
		send(t, full, to, "x", api.ErrArg)             // and no room
		send(t, some, to, long(most+1), api.ErrArg)    // and too large
		send(t, full, to, long(most+1), api.ErrArg)    // and both
		send(t, bag(t, 0), to, long(most), api.ErrArg) // and no room at all
	}
	send(t, full, 1, long(most+1), api.ErrLarge)
	send(t, bag(t, 0), 1, long(most+1), api.ErrLarge)
	twin(t, full, -1, api.ErrNone)
	twin(t, full, 2, api.ErrNone)
	twin(t, full, 1, api.ErrFull)
	twin(t, bag(t, 0), 0, api.ErrNone)
	for _, b := range []*Bag{full, some} {
		is(t, "ahead of Spoil", b, sorted("one", "two")...)
		spoil(t, b, 0, 0, 1, api.OK)
		for _, turn := range []byte{0, 1} {
			spoil(t, b, 2, 0, turn, api.ErrNone)
			spoil(t, b, 2, 3, turn, api.ErrNone)
			spoil(t, b, 0, 3, turn, api.ErrRange)
			spoil(t, b, 0, -1, turn, api.ErrRange)
			spoil(t, b, 0, 2, turn, api.ErrOld)
		}
		is(t, "behind Spoil", b, sorted("nne", "two")...)
	}
}

// What a sender does with its bytes behind Send, and with their spare room, is nothing to the bag; nor does the bag turn them.
func TestHandedIn(t *testing.T) {
	for _, size := range []int{0, 1, 4} {
		whole := []byte("abcdefgh")
		b := bag(t, 9)
		errs(t, "Send", b.Send(1, whole[:size]), api.OK)
		errs(t, "Send", b.Send(2, whole[:size]), api.OK)
		twin(t, b, 0, api.OK)
		if size > 0 {
			spoil(t, b, 2, 0, 3, api.OK)
		}
		if string(whole) != "abcdefgh" {
			t.Errorf("%d bytes: what was handed in is now %q", size, whole)
		}
		for i := range whole {
			whole[i] = '!'
		}
		s, turned := "abcdefgh"[:size], "bbcdefgh"[:size]
		is(t, fmt.Sprint(size, " bytes"), b, letter{to: 1, text: s}, letter{to: 2, text: s}, letter{to: 1, text: turned})
	}
}

// P8.2

// scratch turns all bytes of a list, its spare room included.
func scratch(b []byte) {
	b = b[:cap(b)]
	for i := range b {
		b[i] = '!'
	}
}

// What is looked at or taken is the caller's: no byte of it, nor of its spare room, is the bag's or another answer's.
func TestAnswers(t *testing.T) {
	b := filled(t, 5, "one", "two")
	twin(t, b, 0, api.OK)
	want := []letter{{to: 1, text: "one"}, {to: 2, text: "two"}, {to: 1, text: "one"}}
	_, first, _ := b.Look(0)
	_, again, _ := b.Look(0)
	_, other, _ := b.Look(2)
	scratch(first)
	if string(again) != "one" || string(other) != "one" {
		t.Errorf("other answers are now %q, %q", again, other)
	}
	is(t, "behind a Look that was turned", b, want...)
	_, taken, _ := b.Take(0)
	scratch(taken)
	if string(again) != "one" || string(other) != "one" {
		t.Errorf("other answers are now %q, %q", again, other)
	}
	is(t, "behind a Take that was turned", b, want[1:]...)
	spoil(t, b, 1, 0, 1, api.OK)
	send(t, b, 9, "xyz", api.OK) // where the taken one was
	if string(first) != "!!!" || string(taken) != "!!!" || string(other) != "one" {
		t.Errorf("behind Spoil and Send answers are %q, %q, %q", first, taken, other)
	}
	is(t, "behind all", b, letter{to: 2, text: "two"}, letter{to: 1, text: "nne"}, letter{to: 9, text: "xyz"})
}

// An answer that is handed in again is like any other text.
func TestAnswerHandedIn(t *testing.T) {
	b := filled(t, 5, "one")
	_, s, _ := b.Look(0)
	errs(t, "Send", b.Send(2, s), api.OK)
	errs(t, "Send", b.Send(3, s[1:]), api.OK)
	scratch(s)
	is(t, "behind Look", b, sorted("one", "one", "ne")...)
	_, s, _ = b.Take(1)
	errs(t, "Send", b.Send(4, s), api.OK)
	scratch(s)
	is(t, "behind Take", b, letter{to: 1, text: "one"}, letter{to: 3, text: "ne"}, letter{to: 4, text: "one"})
}

func TestLook(t *testing.T) {
	b := filled(t, 4, "one", "", "three")
	for range 3 { // one that is looked at stays there
		is(t, "looked at", b, sorted("one", "", "three")...)
	}
	send(t, b, 4, "four", api.OK)
	send(t, b, 5, "five", api.ErrFull)
}

func TestTake(t *testing.T) {
	list := []string{"one", "two", "three", "", "five"}
	for i := range list {
		b := filled(t, 5, list...)
		take(t, b, i, i+1, list[i])
		want := append(sorted(list[:i]...), sorted(list...)[i+1:]...)
		is(t, fmt.Sprint("behind Take of ", i), b, want...)
		send(t, b, 9, "new", api.OK)
		send(t, b, 9, "newer", api.ErrFull)
		is(t, fmt.Sprint("behind Take of ", i, " and Send"), b, append(want, letter{to: 9, text: "new"})...)
	}
}

// All orders in which five can be taken leave the others in theirs.
func TestTakeAll(t *testing.T) {
	list := []string{"a", "bb", "ccc", "dddd", "eeeee"}
	var further func(way []int)
	further = func(way []int) {
		b, left := filled(t, 5, list...), sorted(list...)
		for _, i := range way {
			take(t, b, i, left[i].to, left[i].text)
			left = append(left[:i:i], left[i+1:]...)
		}
		is(t, fmt.Sprint("behind Takes of ", way), b, left...)
		for i := range left {
			further(append(way[:len(way):len(way)], i))
		}
	}
	further(nil)
}

func TestNone(t *testing.T) {
	for _, list := range [][]string{nil, {"a"}, {"a", "b"}, {"a", "", "c"}} {
		for room := len(list); room < len(list)+2; room++ {
			b := filled(t, room, list...)
			for _, i := range []int{math.MinInt, -2, -1, len(list), len(list) + 1, api.MaxBag, math.MaxInt} {
				none(t, b, i)
				is(t, "behind what could not be done", b, sorted(list...)...)
			}
		}
	}
	b := filled(t, 1, "a")
	take(t, b, 0, 1, "a")
	none(t, b, 0) // it is gone
}

func TestLastOne(t *testing.T) {
	b := filled(t, 4, "a", "b", "c")
	spoil(t, b, 2, 0, 1, api.OK)
	twin(t, b, 2, api.OK)
	take(t, b, 3, 3, "b")
	take(t, b, 2, 3, "b")
	none(t, b, 2)
	is(t, "behind the last ones", b, sorted("a", "b")...)
}

func TestTwin(t *testing.T) {
	one, two, three := letter{to: 1, text: "one"}, letter{to: 2, text: ""}, letter{to: 3, text: "three"}
	for i, m := range []letter{one, two, three} {
		b := filled(t, 5, "one", "", "three")
		twin(t, b, i, api.OK)
		is(t, fmt.Sprint("Twin of ", i), b, one, two, three, m)
		twin(t, b, 3, api.OK)
		is(t, fmt.Sprint("Twin of the twin of ", i), b, one, two, three, m, m)
		for j := range 5 {
			twin(t, b, j, api.ErrFull)
		}
		twin(t, b, 5, api.ErrNone)
		is(t, "full", b, one, two, three, m, m)
		take(t, b, i, m.to, m.text)
		take(t, b, 3, m.to, m.text)
		b.Take(0)
		b.Take(0)
		is(t, fmt.Sprint("the twin of ", i, " alone"), b, m)
	}
}

func TestTwinFull(t *testing.T) {
	b := bag(t, api.MaxBag)
	send(t, b, 1, long(most), api.OK)
	for range api.MaxBag - 1 {
		twin(t, b, b.Len()-1, api.OK)
	}
	twin(t, b, 0, api.ErrFull)
	send(t, b, 1, "", api.ErrFull)
	take(t, b, 0, 1, long(most))
	twin(t, b, 0, api.OK)
	twin(t, b, api.MaxBag-1, api.ErrFull)
	if b.Len() != api.MaxBag {
		t.Errorf("Len: %d", b.Len())
	}
}

// Each byte of a text, and each turn of one.
func TestSpoil(t *testing.T) {
	for at := range 3 {
		for turn := range 256 {
			b := filled(t, 3, "xyz", "abc", "xyz")
			spoil(t, b, 1, at, byte(turn), api.OK)
			text := []byte("abc")
			text[at] ^= byte(turn)
			is(t, fmt.Sprintf("Spoil of %d by %d", at, turn), b, sorted("xyz", string(text), "xyz")...)
		}
	}
}

func TestSpoilAt(t *testing.T) {
	for _, size := range []int{0, 1, 2, 3, most} {
		for _, at := range []int{math.MinInt, -2, -1, size, size + 1, most, math.MaxInt} {
			if at >= 0 && at < size {
				continue
			}
			b := filled(t, 1, long(size))
			spoil(t, b, 0, at, 0, api.ErrRange)
			spoil(t, b, 0, at, 1, api.ErrRange)
			is(t, "refused", b, sorted(long(size))...)
			if size > 0 { // a refused one did not spoil it
				spoil(t, b, 0, 0, 1, api.OK)
				spoil(t, b, 0, at, 1, api.ErrRange)
				is(t, "not refused", b, sorted("c"+long(size-1))...)
			}
		}
		if size > 0 {
			b := filled(t, 1, long(size))
			spoil(t, b, 0, size-1, 1, api.OK)
			is(t, "the last byte", b, sorted(long(size-1)+"c")...)
		}
	}
}

// A turn of 0 spoils nothing, how often ever; any other one spoils once.
func TestSpoilAgain(t *testing.T) {
	for turn := 1; turn < 256; turn++ {
		b := filled(t, 2, "abc", "abc")
		for at := range 3 {
			spoil(t, b, 0, at, 0, api.OK)
			spoil(t, b, 0, at, 0, api.OK)
		}
		is(t, "turned by 0", b, sorted("abc", "abc")...)
		spoil(t, b, 0, 1, byte(turn), api.OK)
		want := sorted("a"+string([]byte{'b' ^ byte(turn)})+"c", "abc")
		for at := range 3 {
			for _, again := range []byte{0, 1, byte(turn), 255} {
				spoil(t, b, 0, at, again, api.ErrOld)
			}
		}
		is(t, fmt.Sprint("turned by ", turn), b, want...)
		spoil(t, b, 1, 1, byte(turn), api.OK) // the other one is as it was
	}
}

// A twin that was made ahead of a Spoil is whole, whichever of both is spoilt.
func TestTwinAhead(t *testing.T) {
	for spoilt := range 2 {
		b := filled(t, 3, "abc")
		twin(t, b, 0, api.OK)
		spoil(t, b, spoilt, 0, 1, api.OK)
		want := []letter{{to: 1, text: "abc"}, {to: 1, text: "abc"}}
		want[spoilt].text = "`bc"
		is(t, "one spoilt", b, want...)
		spoil(t, b, spoilt, 1, 1, api.ErrOld)
		spoil(t, b, 1-spoilt, 2, 1, api.OK)
		want[1-spoilt].text = "abb"
		is(t, "both spoilt", b, want...)
		spoil(t, b, 1-spoilt, 2, 1, api.ErrOld)
	}
}

// A twin that was made behind a Spoil is spoilt, and so are its own.
func TestTwinBehind(t *testing.T) {
	b := filled(t, 5, "abc")
	spoil(t, b, 0, 0, 1, api.OK)
	twin(t, b, 0, api.OK)
	twin(t, b, 1, api.OK)
	m := letter{to: 1, text: "`bc"}
	for i := range 3 {
		for _, turn := range []byte{0, 1, 2} {
			spoil(t, b, i, 0, turn, api.ErrOld)
			spoil(t, b, i, 2, turn, api.ErrOld)
		}
	}
	is(t, "twins", b, m, m, m)
	take(t, b, 0, 1, "`bc")
	twin(t, b, 0, api.OK)
	spoil(t, b, 2, 1, 1, api.ErrOld)
	is(t, "behind Take", b, m, m, m)
}

// A turn of 0 leaves twins as whole as it left the one that they are of.
func TestTwinOfTurnZero(t *testing.T) {
	b := filled(t, 2, "abc")
	spoil(t, b, 0, 0, 0, api.OK)
	twin(t, b, 0, api.OK)
	spoil(t, b, 1, 0, 1, api.OK)
	spoil(t, b, 0, 1, 1, api.OK)
	is(t, "each spoilt by itself", b, letter{to: 1, text: "acc"}, letter{to: 1, text: "`bc"})
}

// Who comes to where a spoilt one was is not spoilt, and one that stays spoilt is so wherever it stands.
func TestSpoiltAndOthers(t *testing.T) {
	b := filled(t, 2, "abc", "def")
	spoil(t, b, 0, 0, 1, api.OK)
	take(t, b, 0, 1, "`bc")
	send(t, b, 3, "ghi", api.OK)
	spoil(t, b, 1, 0, 1, api.OK)
	is(t, "behind Send", b, letter{to: 2, text: "def"}, letter{to: 3, text: "fhi"})
	take(t, b, 0, 2, "def")
	spoil(t, b, 0, 0, 1, api.ErrOld)
	_, s, _ := b.Take(0)
	errs(t, "Send", b.Send(3, s), api.OK) // sent anew, it is a message like any other
	spoil(t, b, 0, 0, 1, api.OK)
	is(t, "sent anew", b, letter{to: 3, text: "ghi"})
}

// No message is spoilt into another one.
func TestFrames(t *testing.T) {
	m := api.Message{Kind: api.Push, From: api.AtFront, To: api.AtChest, Epoch: 3, A: 300, B: 1, Body: []byte("body")}
	text, e := frame.Encode(m)
	if e != api.OK {
		t.Fatalf("Encode: %d", e)
	}
	for at := range text {
		for turn := range 256 {
			b := filled(t, 2, string(text))
			spoil(t, b, 0, at, byte(turn), api.OK)
			twin(t, b, 0, api.OK)
			b.Spoil(1, 0, 1) // of turn 0 that spoils the twin; else it is refused
			_, first, _ := b.Take(0)
			_, second, _ := b.Take(0)
			want := api.ErrForm
			if turn == 0 {
				want = api.OK
			}
			if _, e := frame.Decode(first); e != want {
				t.Errorf("at %d by %d: %d, not %d", at, turn, e, want)
			}
			if _, e := frame.Decode(second); e != api.ErrForm {
				t.Errorf("at %d by %d: the twin: %d", at, turn, e)
			}
		}
	}
}

// All promises together

// plain: a bag as the words say it, in a list.
type plain struct {
	room int
	all  []letter
}

func (p *plain) add(m letter) api.Errno {
	if len(p.all) >= p.room {
		return api.ErrFull
	}
	p.all = append(p.all, m)
	return api.OK
}

func (p *plain) send(to int, s string) api.Errno {
	if to < 0 || to > 255 {
		return api.ErrArg
	}
	if len(s) > most {
		return api.ErrLarge
	}
	return p.add(letter{to: to, text: s})
}

func (p *plain) has(i int) bool { return i >= 0 && i < len(p.all) }

func (p *plain) twin(i int) api.Errno {
	if !p.has(i) {
		return api.ErrNone
	}
	return p.add(p.all[i])
}

func (p *plain) take(i int) (letter, api.Errno) {
	if !p.has(i) {
		return letter{}, api.ErrNone
	}
	m := p.all[i]
	p.all = append(append([]letter(nil), p.all[:i]...), p.all[i+1:]...)
	return m, api.OK
}

func (p *plain) spoil(i, at int, turn byte) api.Errno {
	if !p.has(i) {
		return api.ErrNone
	}
	m := &p.all[i]
	if at < 0 || at >= len(m.text) {
		return api.ErrRange
	}
	if m.spoilt {
		return api.ErrOld
	}
	m.text = m.text[:at] + string([]byte{m.text[at] ^ turn}) + m.text[at+1:]
	m.spoilt = turn != 0
	return api.OK
}

// step: one call of a bag, and of one as the words say it: are the answers the same?
type step struct {
	name string
	do   func(b *Bag, p *plain) bool
}

func sendStep(to int, s string) step {
	return step{fmt.Sprintf("send %d %.3q", to, s), func(b *Bag, p *plain) bool { return b.Send(to, []byte(s)) == p.send(to, s) }}
}

func spoilStep(i, at int, turn byte) step {
	return step{fmt.Sprint("spoil ", i, at, turn), func(b *Bag, p *plain) bool { return b.Spoil(i, at, turn) == p.spoil(i, at, turn) }}
}

// numbered: a Twin and a Take of the i-th.
func numbered(i int) []step {
	return []step{
		{fmt.Sprint("twin ", i), func(b *Bag, p *plain) bool { return b.Twin(i) == p.twin(i) }},
		{fmt.Sprint("take ", i), func(b *Bag, p *plain) bool {
			to, text, e := b.Take(i)
			m, want := p.take(i)
			return to == m.to && string(text) == m.text && e == want
		}},
	}
}

// walk: goes this way with a new bag, and fails where it is not what the words say. Of the way only the last steps are asked about, from the given one on.
func walk(t *testing.T, room int, way []step, asked int) {
	t.Helper()
	b, p := bag(t, room), &plain{room: room}
	for i, s := range way {
		right := s.do(b, p)
		fault := ""
		if i >= asked {
			fault = same(b, p.all)
		}
		if !right || fault != "" {
			t.Fatalf("room %d: at %d: %t, %s; want %v: %v", room, i, right, fault, p.all, names(way[:i+1]))
		}
	}
}

func names(way []step) []string {
	var out []string
	for _, s := range way {
		out = append(out, s.name)
	}
	return out
}

// All ways of a few calls.
func TestShortWays(t *testing.T) {
	all := []step{sendStep(1, ""), sendStep(2, "a"), sendStep(3, "bc"), sendStep(256, "d")}
	for i := range 3 {
		all = append(append(all, numbered(i)...), spoilStep(i, 0, 0), spoilStep(i, 0, 1), spoilStep(i, 1, 2))
	}
	for room := range 4 {
		var further func(way []step, more int)
		further = func(way []step, more int) {
			walk(t, room, way, len(way)-1) // the elder steps were asked about when they were the last ones
			if more == 0 {
				return
			}
			for _, s := range all {
				further(append(way[:len(way):len(way)], s), more-1)
			}
		}
		further(nil, 4)
	}
}

// Some ways of many calls, the same ones each time.
func TestLongWays(t *testing.T) {
	all := []step{sendStep(-1, "x"), sendStep(256, long(most+1)), sendStep(9, long(most+1))}
	for to, s := range []string{"", "a", "bc", "def", "ghij", "klmno"} {
		all = append(all, sendStep(to, s), sendStep(255-to, s))
	}
	for i := -1; i < 9; i++ {
		all = append(append(all, numbered(i)...), numbered(i/2)...)
		for at := -1; at < 5; at++ {
			all = append(all, spoilStep(i, at, byte(max(i, 0)*at)))
		}
	}
	pick := rand.New(rand.NewPCG(8, 1))
	for room := range 10 {
		for range 300 {
			way := make([]step, 80)
			for i := range way {
				way[i] = all[pick.IntN(len(all))]
			}
			walk(t, room, way, 0)
		}
	}
}

// Far more come and go than there are places.
func TestComeAndGo(t *testing.T) {
	b := filled(t, 3, "0", "1")
	for i := 2; i < 5000; i++ {
		send(t, b, i%256, fmt.Sprint(i), api.OK)
		send(t, b, 0, "x", api.ErrFull)
		want := i - 2
		to, text, e := b.Take(0)
		if string(text) != fmt.Sprint(want) || e != api.OK || want > 1 && to != want%256 || b.Len() != 2 {
			t.Fatalf("Take at %d: %d, %q, %d, %d left", i, to, text, e, b.Len())
		}
	}
}
