package tape

import (
	"bytes"
	"fmt"
	"math"
	"math/rand/v2"
	"strings"
	"testing"

	"roundhouse/api"
)

// tape: a new one with so much room.
func tape(t *testing.T, room int) *Tape {
	t.Helper()
	p, e := New(room)
	if p == nil || e != api.OK {
		t.Fatalf("New(%d): %v, %d", room, p, e)
	}
	return p
}

// is: has it these bytes, of which so many may not last?
func is(t *testing.T, p *Tape, want string, loose int) {
	t.Helper()
	if b, e := p.Bytes(); string(b) != want || e != api.OK || p.Loose() != loose {
		t.Errorf("%q, %d, %d loose; want %q, %d loose", b, e, p.Loose(), want, loose)
	}
}

// isDown: is it down, with so many bytes that may not last?
func isDown(t *testing.T, p *Tape, loose int) {
	t.Helper()
	if b, e := p.Bytes(); b != nil || e != api.ErrDown || p.Loose() != loose {
		t.Errorf("down: %q, %d, %d loose; want %d loose", b, e, p.Loose(), loose)
	}
}

// errs: a call's answer, and what it has to be.
func errs(t *testing.T, what string, e, want api.Errno) {
	t.Helper()
	if e != want {
		t.Errorf("%s: %d, not %d", what, e, want)
	}
}

func add(t *testing.T, p *Tape, s string, want api.Errno) {
	t.Helper()
	errs(t, fmt.Sprintf("Add(%.20q)", s), p.Add([]byte(s)), want)
}

func syncs(t *testing.T, p *Tape, want api.Errno) {
	t.Helper()
	errs(t, "Sync()", p.Sync(), want)
}

func replace(t *testing.T, p *Tape, s string, want api.Errno) {
	t.Helper()
	errs(t, fmt.Sprintf("Replace(%.20q)", s), p.Replace([]byte(s)), want)
}

// filled: one of which the first bytes last, and the others may not.
func filled(t *testing.T, room int, lasts, loose string) *Tape {
	t.Helper()
	p := tape(t, room)
	add(t, p, lasts, api.OK)
	syncs(t, p, api.OK)
	add(t, p, loose, api.OK)
	is(t, p, lasts+loose, len(loose))
	return p
}

// long: so many bytes.
func long(n int) string { return strings.Repeat("t", n) }

// P6.1

func TestNew(t *testing.T) {
	for _, room := range []int{-1, -2, math.MinInt, api.MaxTape + 1, 2 * api.MaxTape, math.MaxInt} {
		if p, e := New(room); p != nil || e != api.ErrArg {
			t.Errorf("New(%d): %v, %d", room, p, e)
		}
	}
	for _, room := range []int{0, 1, 10, api.MaxTape - 1, api.MaxTape} {
		is(t, tape(t, room), "", 0)
	}
}

func TestTwoTapes(t *testing.T) {
	a, b := tape(t, 3), tape(t, 3)
	add(t, a, "abc", api.OK)
	a.Fail(0)
	syncs(t, a, api.ErrDown)
	is(t, b, "", 0)
	add(t, b, "xyz", api.OK)
	a.Crash(9, 0)
	is(t, a, "abc", 0)
	is(t, b, "xyz", 3)
}

func TestNil(t *testing.T) {
	var p *Tape
	if b, e := p.Bytes(); b != nil || e != api.ErrArg {
		t.Errorf("Bytes: %q, %d", b, e)
	}
	for _, s := range []string{"", "a", long(api.MaxTape + 1)} {
		add(t, p, s, api.ErrArg)
		replace(t, p, s, api.ErrArg)
	}
	syncs(t, p, api.ErrArg)
	for _, n := range []int{math.MinInt, -1, 0, 1, math.MaxInt} {
		p.Fail(n)
		p.Crash(n, 0)
		p.Crash(n, 1)
	}
	if p.Loose() != 0 {
		t.Errorf("Loose: %d", p.Loose())
	}
}

func TestLoose(t *testing.T) {
	p := tape(t, 100)
	add(t, p, "ab", api.OK)
	is(t, p, "ab", 2)
	add(t, p, "", api.OK)
	is(t, p, "ab", 2)
	add(t, p, "c", api.OK)
	is(t, p, "abc", 3)
	syncs(t, p, api.OK)
	is(t, p, "abc", 0)
	syncs(t, p, api.OK)
	is(t, p, "abc", 0)
	add(t, p, "de", api.OK)
	is(t, p, "abcde", 2)
	replace(t, p, "xy", api.OK)
	is(t, p, "xy", 0)
	add(t, p, "z12", api.OK)
	is(t, p, "xyz12", 3)
	p.Crash(1, 0)
	is(t, p, "xyz", 0)
	add(t, p, "3", api.OK)
	is(t, p, "xyz3", 1)
	replace(t, p, "", api.OK)
	is(t, p, "", 0)
}

// What is answered is the caller's: no byte of it, nor of its spare room, is the tape's.
func TestBytesChanged(t *testing.T) {
	p := filled(t, 100, "abc", "def")
	p.Crash(2, 0) // what was lost has lain behind, in the same memory
	add(t, p, "gh", api.OK)
	a, _ := p.Bytes()
	b, _ := p.Bytes()
	whole := a[:cap(a)]
	for i := range whole {
		whole[i] = '!'
	}
	if string(b) != "abcdegh" {
		t.Errorf("another answer is now %q", b)
	}
	is(t, p, "abcdegh", 2)
	add(t, p, "ij", api.OK)
	is(t, p, "abcdeghij", 4)
	if whole[0] != '!' || string(a) != "!!!!!!!" || string(b) != "abcdegh" {
		t.Errorf("behind Add answers are %q, %q", a, b)
	}
	p.Crash(0, 1)
	replace(t, p, "0123", api.OK)
	if string(a) != "!!!!!!!" || string(b) != "abcdegh" {
		t.Errorf("behind Crash and Replace answers are %q, %q", a, b)
	}
}

// P6.2

func TestAdd(t *testing.T) {
	p := tape(t, 1000)
	want := ""
	for i := range 40 {
		s := long(i%7) + string([]byte{byte(i), 0, 255})
		add(t, p, s, api.OK)
		want += s
		is(t, p, want, len(want))
	}
	if e := p.Add(nil); e != api.OK {
		t.Errorf("Add(nil): %d", e)
	}
	is(t, p, want, len(want))
}

func TestSync(t *testing.T) {
	p := filled(t, 10, "ab", "cd")
	syncs(t, p, api.OK)
	is(t, p, "abcd", 0)
	p.Crash(0, 1)
	is(t, p, "abcd", 0)
	empty := tape(t, 0)
	syncs(t, empty, api.OK)
	is(t, empty, "", 0)
}

func TestReplace(t *testing.T) {
	for _, s := range []string{"", "x", "xy", "xyzxyz", "0123456789"} {
		p := filled(t, 10, "ab", "cd")
		replace(t, p, s, api.OK)
		is(t, p, s, 0)
		p.Crash(0, 1)
		is(t, p, s, 0)
	}
	p := filled(t, 10, "ab", "cd")
	if e := p.Replace(nil); e != api.OK {
		t.Errorf("Replace(nil): %d", e)
	}
	is(t, p, "", 0)
}

func TestRoomOfAdd(t *testing.T) {
	p := tape(t, 10)
	add(t, p, long(11), api.ErrFull)
	is(t, p, "", 0)
	add(t, p, "abcdefg", api.OK)
	add(t, p, "hijk", api.ErrFull)
	is(t, p, "abcdefg", 7)
	add(t, p, "hij", api.OK)
	is(t, p, "abcdefghij", 10)
	add(t, p, "", api.OK)
	add(t, p, "k", api.ErrFull)
	is(t, p, "abcdefghij", 10)
	syncs(t, p, api.OK)
	add(t, p, "k", api.ErrFull)
	is(t, p, "abcdefghij", 0)
}

// Replace asks for room for its bytes alone, whatever stands on the tape.
func TestRoomOfReplace(t *testing.T) {
	p := filled(t, 10, "abcdefgh", "ij")
	replace(t, p, long(11), api.ErrFull)
	is(t, p, "abcdefghij", 2)
	replace(t, p, "0123456789", api.OK)
	is(t, p, "0123456789", 0)
	replace(t, p, "9876543210", api.OK)
	is(t, p, "9876543210", 0)
	replace(t, p, "x", api.OK)
	add(t, p, "012345678", api.OK)
	is(t, p, "x012345678", 9)
	add(t, p, "9", api.ErrFull)
	is(t, p, "x012345678", 9)
}

func TestNoRoom(t *testing.T) {
	p := tape(t, 0)
	add(t, p, "", api.OK)
	add(t, p, "a", api.ErrFull)
	syncs(t, p, api.OK)
	replace(t, p, "", api.OK)
	replace(t, p, "a", api.ErrFull)
	is(t, p, "", 0)
	p.Crash(1, 1)
	is(t, p, "", 0)
}

func TestMostRoom(t *testing.T) {
	most := long(api.MaxTape)
	p := tape(t, api.MaxTape)
	add(t, p, most+"a", api.ErrFull)
	replace(t, p, most+"a", api.ErrFull)
	is(t, p, "", 0)
	add(t, p, most[1:], api.OK)
	add(t, p, "ab", api.ErrFull)
	add(t, p, "a", api.OK)
	is(t, p, most[1:]+"a", api.MaxTape)
	replace(t, p, most, api.OK)
	is(t, p, most, 0)
	add(t, p, "a", api.ErrFull)
}

// Room that a crash made free is free.
func TestRoomBehindCrash(t *testing.T) {
	p := filled(t, 5, "ab", "cde")
	p.Crash(1, 0)
	add(t, p, "xyz", api.ErrFull)
	add(t, p, "xy", api.OK)
	is(t, p, "abcxy", 2)
}

// What is handed in is neither changed nor kept, its spare room included.
func TestHandedIn(t *testing.T) {
	calls := map[string]func(p *Tape, b []byte) api.Errno{"Add": (*Tape).Add, "Replace": (*Tape).Replace}
	for name, call := range calls {
		for _, size := range []int{0, 1, 4} {
			whole := []byte("abcdefgh")
			p := tape(t, 100)
			errs(t, name, call(p, whole[:size]), api.OK)
			add(t, p, "xy", api.OK)
			p.Crash(1, 7)
			add(t, p, "z", api.OK)
			if string(whole) != "abcdefgh" {
				t.Errorf("%s: %d bytes: what was handed in is now %q", name, size, whole)
			}
			before, _ := p.Bytes()
			for i := range whole {
				whole[i] = '!'
			}
			if now, _ := p.Bytes(); !bytes.Equal(now, before) || bytes.Contains(now, []byte("!")) {
				t.Errorf("%s: %d bytes: the tape was %q, is %q", name, size, before, now)
			}
		}
	}
}

// What Bytes answered is no part of the tape when it is handed in again.
func TestAnswerHandedIn(t *testing.T) {
	p := filled(t, 10, "ab", "c")
	b, _ := p.Bytes()
	errs(t, "Add", p.Add(b), api.OK)
	is(t, p, "abcabc", 4)
	errs(t, "Replace", p.Replace(b[1:]), api.OK)
	b[1] = '!'
	is(t, p, "bc", 0)
}

// P6.3

// writing: a call that counts, and what the tape "ab", with "cd" that may not last, is behind it.
type writing struct {
	name  string
	do    func(p *Tape) api.Errno
	want  string
	loose int
}

func writings() []writing {
	return []writing{
		{"Add", func(p *Tape) api.Errno { return p.Add([]byte("x")) }, "abcdx", 3},
		{"Add of nothing", func(p *Tape) api.Errno { return p.Add(nil) }, "abcd", 2},
		{"Sync", (*Tape).Sync, "abcd", 0},
		{"Replace", func(p *Tape) api.Errno { return p.Replace([]byte("x")) }, "x", 0},
		{"Replace by nothing", func(p *Tape) api.Errno { return p.Replace(nil) }, "", 0},
	}
}

// The call with which it goes down has done nothing.
func TestFailAtOnce(t *testing.T) {
	for _, w := range writings() {
		p := filled(t, 100, "ab", "cd")
		p.Fail(0)
		is(t, p, "abcd", 2)
		errs(t, w.name, w.do(p), api.ErrDown)
		isDown(t, p, 2)
		p.Crash(2, 1)
		is(t, p, "abcd", 0)
	}
}

func TestFailBehindOne(t *testing.T) {
	for _, first := range writings() {
		for _, second := range writings() {
			p := filled(t, 100, "ab", "cd")
			p.Fail(1)
			errs(t, first.name, first.do(p), api.OK)
			is(t, p, first.want, first.loose)
			errs(t, first.name+", "+second.name, second.do(p), api.ErrDown)
			isDown(t, p, first.loose)
			p.Crash(100, 0)
			is(t, p, first.want, 0)
		}
	}
}

func TestFailBehindMany(t *testing.T) {
	for after := range 20 {
		p := tape(t, 100)
		p.Fail(after)
		for i := range after {
			errs(t, fmt.Sprintf("Fail(%d), %d done", after, i), writings()[i%5].do(p), api.OK)
		}
		before, _ := p.Bytes()
		errs(t, fmt.Sprintf("Fail(%d), all done", after), p.Add([]byte("x")), api.ErrDown)
		isDown(t, p, p.Loose())
		p.Crash(100, 1)
		is(t, p, string(before), 0)
	}
}

func TestNever(t *testing.T) {
	for _, after := range []int{-1, -2, math.MinInt, math.MaxInt} {
		p := tape(t, 100)
		p.Fail(after)
		for i := range 50 {
			errs(t, fmt.Sprintf("Fail(%d), %d done", after, i), writings()[i%5].do(p), api.OK)
		}
	}
	p := tape(t, 100)
	for i := range 50 {
		errs(t, "without Fail", writings()[i%5].do(p), api.OK)
	}
}

func TestFailAnew(t *testing.T) {
	for _, c := range []struct{ first, between, second, done int }{
		{0, 0, 2, 2}, {0, 0, 0, 0}, {5, 0, 1, 1}, {2, 2, 2, 2}, {2, 2, 0, 0}, {3, 1, 3, 3}, {-1, 2, 1, 1},
		{0, 0, -1, 30}, {2, 2, -1, 30}, {9, 0, math.MinInt, 30},
	} {
		p := tape(t, 100)
		p.Fail(c.first)
		for range c.between {
			add(t, p, "a", api.OK)
		}
		p.Fail(c.second)
		for range c.done {
			add(t, p, "b", api.OK)
		}
		want := api.ErrDown
		if c.second < 0 {
			want = api.OK
		}
		add(t, p, "c", want)
	}
}

func TestFullDoesNotCount(t *testing.T) {
	p := filled(t, 5, "ab", "cd")
	full := func() {
		t.Helper()
		for range 3 {
			add(t, p, "xy", api.ErrFull)
			replace(t, p, "123456", api.ErrFull)
		}
	}
	p.Fail(1)
	full()
	is(t, p, "abcd", 2)
	add(t, p, "e", api.OK)
	full() // it has to go down now, but these do not bring it down
	is(t, p, "abcde", 3)
	syncs(t, p, api.ErrDown)
	isDown(t, p, 3)
	add(t, p, "xy", api.ErrDown)
	replace(t, p, "123456", api.ErrDown)
	p.Crash(9, 0)
	is(t, p, "abcde", 0)
	full()
}

// Calls that do not write are none of those that are counted, nor are another tape's.
func TestOthersDoNotCount(t *testing.T) {
	p, other := filled(t, 100, "ab", "cd"), tape(t, 100)
	p.Fail(1)
	for range 5 {
		is(t, p, "abcd", 2)
		add(t, other, "x", api.OK)
		syncs(t, other, api.OK)
	}
	add(t, p, "e", api.OK)
	is(t, p, "abcde", 3)
	add(t, p, "f", api.ErrDown)
}

func TestDown(t *testing.T) {
	for _, after := range []int{-1, 0, 1, 7, math.MinInt, math.MaxInt} {
		p := filled(t, 10, "ab", "cd")
		p.Fail(0)
		add(t, p, "e", api.ErrDown)
		for range 3 {
			for _, s := range []string{"", "x", "0123456789", "0123456789x"} {
				add(t, p, s, api.ErrDown)
				replace(t, p, s, api.ErrDown)
			}
			syncs(t, p, api.ErrDown)
			isDown(t, p, 2)
			p.Fail(after)
			isDown(t, p, 2)
		}
		p.Crash(1, 0)
		is(t, p, "abc", 0)
		for range 7 { // what Fail said while it was down is over, too
			add(t, p, "x", api.OK)
		}
		is(t, p, "abcxxxxxxx", 7)
	}
}

func TestCrash(t *testing.T) {
	for _, c := range []struct {
		keep int
		turn byte
		want string
	}{
		{math.MinInt, 0, "ab"}, {-1, 0, "ab"}, {0, 0, "ab"}, {1, 0, "abc"}, {2, 0, "abcd"}, {3, 0, "abcde"}, {4, 0, "abcde"}, {math.MaxInt, 0, "abcde"},
		{math.MinInt, 1, "abb"}, {-1, 1, "abb"}, {0, 1, "abb"}, {1, 1, "abce"}, {2, 1, "abcdd"}, {3, 1, "abcde"}, {4, 1, "abcde"}, {math.MaxInt, 1, "abcde"},
		{0, 'c', "ab\x00"}, {0, 255, "ab\x9c"}, {1, 128, "abc\xe4"}, {2, 'e' ^ 'c', "abcdc"}, {3, 255, "abcde"},
	} {
		up, down := filled(t, 10, "ab", "cde"), filled(t, 10, "ab", "cde")
		down.Fail(0)
		syncs(t, down, api.ErrDown)
		for _, p := range []*Tape{up, down} {
			p.Crash(c.keep, c.turn)
			is(t, p, c.want, 0)
			p.Crash(-1, 1) // all last now
			is(t, p, c.want, 0)
			add(t, p, "xy", api.OK)
			is(t, p, c.want+"xy", 2)
			p.Crash(1, 0)
			is(t, p, c.want+"x", 0)
		}
	}
}

// What never was, or what lasts, is not turned.
func TestCrashWithoutLoose(t *testing.T) {
	for _, keep := range []int{math.MinInt, -1, 0, 1, 2, math.MaxInt} {
		for _, turn := range []byte{0, 1, 255} {
			empty := tape(t, 10)
			empty.Crash(keep, turn)
			is(t, empty, "", 0)
			p := filled(t, 10, "abc", "")
			p.Crash(keep, turn)
			is(t, p, "abc", 0)
		}
	}
}

func TestCrashEndsFail(t *testing.T) {
	for after := range 4 {
		p := tape(t, 100)
		p.Fail(after)
		for range after {
			add(t, p, "a", api.OK)
		}
		p.Crash(100, 0) // it has to go down, but is not down
		for range 10 {
			add(t, p, "b", api.OK)
		}
		p.Fail(1)
		add(t, p, "c", api.OK)
		add(t, p, "d", api.ErrDown)
		p.Crash(100, 0)
		is(t, p, strings.Repeat("a", after)+"bbbbbbbbbbc", 0)
	}
}

// All promises together

// plain: a tape as the words say it, in texts.
type plain struct {
	room         int
	lasts, loose string
	down         bool
	after, done  int // it has to go down with the call behind so many; so many were done since
}

func (p *plain) write(size int, do func()) api.Errno {
	if p.down {
		return api.ErrDown
	}
	if size > p.room {
		return api.ErrFull
	}
	if p.after >= 0 && p.done >= p.after {
		p.down = true
		return api.ErrDown
	}
	p.done++
	do()
	return api.OK
}

func (p *plain) add(s string) api.Errno {
	return p.write(len(p.lasts+p.loose+s), func() { p.loose += s })
}

func (p *plain) sync() api.Errno {
	return p.write(0, func() { p.lasts, p.loose = p.lasts+p.loose, "" })
}

func (p *plain) replace(s string) api.Errno {
	return p.write(len(s), func() { p.lasts, p.loose = s, "" })
}

func (p *plain) crash(keep int, turn byte) {
	for i, c := range []byte(p.loose) {
		if i >= keep && turn != 0 {
			p.lasts += string([]byte{c ^ turn})
		}
		if i >= keep {
			break
		}
		p.lasts += string([]byte{c})
	}
	p.loose, p.down, p.after = "", false, -1
}

// step: one call of a tape, and of one as the words say it: are the answers the same?
type step struct {
	name string
	do   func(p *Tape, q *plain) bool
}

func steps() []step {
	var out []step
	for _, s := range []string{"", "a", "bc", "def", "ghij"} {
		out = append(out,
			step{"add " + s, func(p *Tape, q *plain) bool { return p.Add([]byte(s)) == q.add(s) }},
			step{"replace " + s, func(p *Tape, q *plain) bool { return p.Replace([]byte(s)) == q.replace(s) }})
	}
	for _, n := range []int{-1, 0, 1, 2} {
		out = append(out, step{fmt.Sprint("fail ", n), func(p *Tape, q *plain) bool {
			p.Fail(n)
			q.after, q.done = n, 0
			return true
		}})
		for _, turn := range []byte{0, 3} {
			out = append(out, step{fmt.Sprint("crash ", n, " ", turn), func(p *Tape, q *plain) bool {
				p.Crash(n, turn)
				q.crash(n, turn)
				return true
			}})
		}
	}
	return append(out, step{"sync", func(p *Tape, q *plain) bool { return p.Sync() == q.sync() }})
}

// same: is the tape what the words say?
func same(p *Tape, q *plain) bool {
	b, e := p.Bytes()
	if p.Loose() != len(q.loose) {
		return false
	}
	if q.down {
		return e == api.ErrDown && b == nil
	}
	return e == api.OK && string(b) == q.lasts+q.loose
}

// walk: goes this way with a new tape, and fails where it is not what the words say. Of the way only the last steps are asked about, from the given one on.
func walk(t *testing.T, room int, way []step, asked int) {
	t.Helper()
	p, q := tape(t, room), &plain{room: room, after: -1}
	for i, s := range way {
		if !s.do(p, q) || i >= asked && !same(p, q) {
			b, e := p.Bytes()
			t.Fatalf("room %d: at %d: %q, %d, %d loose; want %+v: %v", room, i, b, e, p.Loose(), *q, names(way[:i+1]))
		}
	}
}

func names(way []step) []string {
	var out []string
	for _, s := range way {
		out = append(out, s.name)
	}
	return out
}

// All ways of a few calls.
func TestShortWays(t *testing.T) {
	all := steps()
	var further func(way []step, more int)
	further = func(way []step, more int) {
		walk(t, 3, way, len(way)-1) // the elder steps were asked about when they were the last ones
		if more == 0 {
			return
		}
		for _, s := range all {
			further(append(way[:len(way):len(way)], s), more-1)
		}
	}
	further(nil, 4)
}

// Some ways of many calls, the same ones each time.
func TestLongWays(t *testing.T) {
	all := steps()
	pick := rand.New(rand.NewPCG(6, 1))
	for room := range 12 {
		for range 300 {
			way := make([]step, 60)
			for i := range way {
				way[i] = all[pick.IntN(len(all))]
			}
			walk(t, room, way, 0)
		}
	}
}
