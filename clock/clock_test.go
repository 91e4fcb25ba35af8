package clock

import (
	"fmt"
	"math"
	"math/rand/v2"
	"slices"
	"testing"

	"roundhouse/api"
)

// lastBell: the greatest number that a bell has.
const lastBell = api.MaxList - 1

// noBells: some numbers that no bell has.
func noBells() []int {
	return []int{math.MinInt, -api.MaxList, -2, -1, api.MaxList, api.MaxList + 1, 2 * api.MaxList, 1 << 32, math.MaxInt}
}

// ring: a bell, and when it is to ring.
type ring struct{ bell, at int }

// errs: a call's answer, and what it has to be.
func errs(t *testing.T, what string, e, want api.Errno) {
	t.Helper()
	if e != want {
		t.Errorf("%s: %d, not %d", what, e, want)
	}
}

func set(t *testing.T, c *Clock, bell, at int, want api.Errno) {
	t.Helper()
	errs(t, fmt.Sprintf("Set(%d, %d)", bell, at), c.Set(bell, at), want)
}

func stop(t *testing.T, c *Clock, bell int, want api.Errno) {
	t.Helper()
	errs(t, fmt.Sprintf("Stop(%d)", bell), c.Stop(bell), want)
}

// pass: these bells ring, in this order, and the time is so much more.
func pass(t *testing.T, c *Clock, n int, want ...int) {
	t.Helper()
	ahead := c.Now()
	if list, e := c.Pass(n); !slices.Equal(list, want) || e != api.OK {
		t.Errorf("Pass(%d) at %d: %v, %d; not %v", n, ahead, list, e, want)
	}
	now(t, c, ahead+n)
}

// refused: a Pass that is answered so, and rings nothing, nor moves the time.
func refused(t *testing.T, c *Clock, n int, want api.Errno) {
	t.Helper()
	ahead := c.Now()
	if list, e := c.Pass(n); list != nil || e != want {
		t.Errorf("Pass(%d) at %d: %v, %d; not %d", n, ahead, list, e, want)
	}
	now(t, c, ahead)
}

func now(t *testing.T, c *Clock, want int) {
	t.Helper()
	if c.Now() != want {
		t.Errorf("Now: %d, not %d", c.Now(), want)
	}
}

// at: a new clock at that time.
func at(t *testing.T, n int) *Clock {
	t.Helper()
	c := New()
	pass(t, c, n)
	return c
}

// filled: a new clock with these bells.
func filled(t *testing.T, list ...ring) *Clock {
	t.Helper()
	c := New()
	for _, r := range list {
		set(t, c, r.bell, r.at, api.OK)
	}
	return c
}

// orders: all orders of a list.
func orders(list []ring) [][]ring {
	if len(list) == 0 {
		return [][]ring{nil}
	}
	var out [][]ring
	for i, r := range list {
		left := slices.Concat(list[:i], list[i+1:])
		for _, o := range orders(left) {
			out = append(out, append([]ring{r}, o...))
		}
	}
	return out
}

// P9.1

func TestNew(t *testing.T) {
	c := New()
	if c == nil {
		t.Fatal("New: nil")
	}
	now(t, c, 0)
	for bell := range api.MaxList {
		stop(t, c, bell, api.ErrNone)
	}
	pass(t, c, 0)
	pass(t, c, api.MaxTime)
}

func TestNil(t *testing.T) {
	var c *Clock
	now(t, c, 0)
	for _, bell := range append(noBells(), 0, 1, lastBell) {
		stop(t, c, bell, api.ErrArg)
		for _, at := range []int{math.MinInt, -1, 0, 1, api.MaxTime, api.MaxTime + 1, math.MaxInt} {
			set(t, c, bell, at, api.ErrArg)
		}
	}
	for _, n := range []int{math.MinInt, -1, 0, 1, api.MaxTime, api.MaxTime + 1, math.MaxInt} {
		refused(t, c, n, api.ErrArg)
	}
}

// One that New did not make is like one that it made.
func TestWithoutNew(t *testing.T) {
	now(t, new(Clock), 0)
	pass(t, new(Clock), 0)
	stop(t, new(Clock), 0, api.ErrNone)
	c := new(Clock)
	set(t, c, 3, 1, api.OK)
	pass(t, c, 2, 3)
}

func TestTwoClocks(t *testing.T) {
	a, b := New(), New()
	set(t, a, 1, 5, api.OK)
	set(t, b, 2, 5, api.OK)
	stop(t, b, 1, api.ErrNone)
	pass(t, a, 5, 1)
	now(t, b, 0)
	pass(t, b, 5, 2)
}

func TestBells(t *testing.T) {
	for _, bell := range []int{0, 1, api.MaxList / 2, lastBell - 1, lastBell} {
		c := New()
		stop(t, c, bell, api.ErrNone)
		set(t, c, bell, 1, api.OK)
		stop(t, c, bell, api.OK)
		stop(t, c, bell, api.ErrNone)
		set(t, c, bell, 1, api.OK)
		pass(t, c, 1, bell)
		stop(t, c, bell, api.ErrNone)
	}
	c := filled(t, ring{0, 2}, ring{lastBell, 1})
	for _, bell := range noBells() {
		set(t, c, bell, 1, api.ErrArg)
		stop(t, c, bell, api.ErrArg)
	}
	pass(t, c, 3, lastBell, 0)
}

// All bells may be set, and each is stopped by itself.
func TestAllBells(t *testing.T) {
	c := New()
	for bell := range api.MaxList {
		set(t, c, bell, 1, api.OK)
	}
	var odd []int
	for bell := range api.MaxList {
		if bell%2 == 1 {
			odd = append(odd, bell)
			continue
		}
		stop(t, c, bell, api.OK)
		stop(t, c, bell, api.ErrNone)
	}
	pass(t, c, 1, odd...)
	pass(t, c, 1)
}

// times: at this time, for when a bell may be set, and what is answered if it may not.
func times(t *testing.T, now int) {
	t.Helper()
	for _, when := range []int{math.MinInt, -api.MaxTime, -1, now - 1} {
		c := at(t, now)
		set(t, c, 7, when, api.ErrOld)
		stop(t, c, 7, api.ErrNone)
	}
	for _, when := range []int{now, now + 1, (now + api.MaxTime) / 2, api.MaxTime - 1, api.MaxTime} {
		if when < now || when > api.MaxTime {
			continue
		}
		c := at(t, now)
		set(t, c, 7, when, api.OK)
		if when > now {
			pass(t, c, when-1-now)
			pass(t, c, 1, 7)
			continue
		}
		pass(t, c, 0, 7)
	}
	for _, when := range []int{api.MaxTime + 1, api.MaxTime + 2, 2 * api.MaxTime, math.MaxInt} {
		c := at(t, now)
		set(t, c, 7, when, api.ErrRange)
		stop(t, c, 7, api.ErrNone)
	}
}

func TestTimes(t *testing.T) {
	for _, now := range []int{0, 1, 2, 1000, 1 << 32, api.MaxTime - 1, api.MaxTime} {
		times(t, now)
	}
}

// A bell that is set anew rings at the new time, and not when it would have.
func TestSetAnew(t *testing.T) {
	c := filled(t, ring{1, 5}, ring{1, 2}) // earlier
	pass(t, c, 1)
	pass(t, c, 1, 1)
	pass(t, c, 9)
	c = filled(t, ring{1, 2}, ring{1, 5}) // later
	pass(t, c, 4)
	pass(t, c, 1, 1)
	pass(t, c, 9)
	c = filled(t, ring{1, 3}, ring{1, 3}, ring{1, 3}) // the same
	pass(t, c, 2)
	pass(t, c, 1, 1)
	pass(t, c, 9)
	c = filled(t, ring{1, 2}, ring{1, 9}, ring{1, 4}) // more than once
	stop(t, c, 1, api.OK)
	stop(t, c, 1, api.ErrNone)
	pass(t, c, 9)
}

// Of bells with others, each has its own last time.
func TestSetAnewAmongOthers(t *testing.T) {
	c := filled(t, ring{1, 5}, ring{2, 5}, ring{3, 5}, ring{2, 4}, ring{1, 6}, ring{3, 5})
	pass(t, c, 9, 2, 3, 1)
	pass(t, c, 9)
	c = filled(t, ring{1, 5}, ring{2, 5}, ring{3, 5}, ring{2, 4}, ring{1, 6}, ring{3, 5})
	pass(t, c, 4, 2)
	set(t, c, 1, 5, api.OK)
	pass(t, c, 1, 1, 3)
	pass(t, c, 9)
}

func TestStop(t *testing.T) {
	c := filled(t, ring{1, 3}, ring{2, 3}, ring{3, 3})
	stop(t, c, 2, api.OK)
	stop(t, c, 2, api.ErrNone)
	pass(t, c, 9, 1, 3)
	for _, bell := range []int{1, 2, 3} { // rung or stopped
		stop(t, c, bell, api.ErrNone)
	}
	pass(t, c, 9)
}

// One that is stopped just ahead of its time does not ring, nor one that is due at now.
func TestStopLate(t *testing.T) {
	c := filled(t, ring{1, 5})
	pass(t, c, 4)
	stop(t, c, 1, api.OK)
	pass(t, c, 1)
	set(t, c, 1, 5, api.OK)
	stop(t, c, 1, api.OK)
	pass(t, c, 0)
	pass(t, c, 9)
}

func TestStoppedAndSetAgain(t *testing.T) {
	for _, again := range []int{2, 5, 8} {
		c := filled(t, ring{1, 5})
		stop(t, c, 1, api.OK)
		set(t, c, 1, again, api.OK)
		pass(t, c, again-1)
		pass(t, c, 1, 1)
		pass(t, c, 9)
		stop(t, c, 1, api.ErrNone)
	}
}

func TestRungAndSetAgain(t *testing.T) {
	c := New()
	for i := range 5 {
		set(t, c, 1, 3*i+2, api.OK)
		pass(t, c, 3, 1)
		stop(t, c, 1, api.ErrNone)
		set(t, c, 1, 3*i+2, api.ErrOld) // where it rang
	}
	pass(t, c, 9)
}

// A bell that is set at now rings at the next Pass, be it of 0.
func TestSetAtNow(t *testing.T) {
	for _, now := range []int{0, 1, 1000, api.MaxTime} {
		c := at(t, now)
		for range 3 {
			set(t, c, 4, now, api.OK)
			pass(t, c, 0, 4)
			pass(t, c, 0)
		}
	}
	c := filled(t, ring{4, 0}, ring{2, 1}, ring{3, 0})
	pass(t, c, 1, 3, 4, 2)
}

// A call that is refused has changed nothing: not whether a bell is set, nor when it rings, nor the time.
func TestRefused(t *testing.T) {
	c := filled(t, ring{1, 6}, ring{2, 7})
	pass(t, c, 5)
	for _, bell := range noBells() {
		set(t, c, bell, 6, api.ErrArg)
		stop(t, c, bell, api.ErrArg)
	}
	for bell := range 3 {
		set(t, c, bell, 4, api.ErrOld)
		set(t, c, bell, -1, api.ErrOld)
		set(t, c, bell, api.MaxTime+1, api.ErrRange)
	}
	stop(t, c, 0, api.ErrNone)
	for _, n := range []int{math.MinInt, -5, -1} {
		refused(t, c, n, api.ErrArg)
	}
	for _, n := range []int{api.MaxTime - 4, api.MaxTime, math.MaxInt} {
		refused(t, c, n, api.ErrRange)
	}
	stop(t, c, 0, api.ErrNone)
	pass(t, c, 0)
	pass(t, c, 1, 1)
	pass(t, c, 1, 2)
	pass(t, c, api.MaxTime-7)
}

// Where several errors apply, the one that the chapter names first. (ErrOld and ErrRange of Set never do both, nor ErrArg and ErrRange of Pass, but of a nil Clock.)
func TestTies(t *testing.T) {
	c := filled(t, ring{1, 9})
	pass(t, c, 5)
	for _, bell := range noBells() {
		for _, when := range []int{math.MinInt, -1, 4, api.MaxTime + 1, math.MaxInt} {
			set(t, c, bell, when, api.ErrArg) // and too old, or too late
			set(t, nil, bell, when, api.ErrArg)
		}
		stop(t, c, bell, api.ErrArg) // and not set
		stop(t, nil, bell, api.ErrArg)
	}
	for _, when := range []int{math.MinInt, -1, api.MaxTime + 1, math.MaxInt} {
		set(t, nil, 1, when, api.ErrArg)
	}
	stop(t, nil, 1, api.ErrArg)
	refused(t, nil, math.MaxInt, api.ErrArg) // and too late
	refused(t, nil, math.MinInt, api.ErrArg)
	end := at(t, api.MaxTime)
	set(t, end, 1, api.MaxTime-1, api.ErrOld)
	set(t, end, 1, api.MaxTime+1, api.ErrRange)
	set(t, end, -1, api.MaxTime-1, api.ErrArg)
	set(t, end, -1, api.MaxTime+1, api.ErrArg)
	refused(t, end, -1, api.ErrArg)
	refused(t, end, math.MinInt, api.ErrArg)
	pass(t, c, 4, 1)
}

// P9.2

func TestPass(t *testing.T) {
	for _, ahead := range []int{0, 1, 5, 1 << 32, api.MaxTime - 2, api.MaxTime - 1, api.MaxTime} {
		c := at(t, ahead)
		left := api.MaxTime - ahead
		for _, n := range []int{math.MinInt, math.MinInt + 1, -api.MaxTime, -ahead - 1, -2, -1} {
			refused(t, c, n, api.ErrArg)
		}
		for _, n := range []int{left + 1, left + 2, api.MaxTime + 1, math.MaxInt - api.MaxTime, math.MaxInt - 1, math.MaxInt} {
			refused(t, c, n, api.ErrRange)
		}
		pass(t, c, 0)
		if left > 0 {
			pass(t, c, 1)
			pass(t, c, left-1)
		}
		refused(t, c, 1, api.ErrRange)
		pass(t, c, 0)
		now(t, c, api.MaxTime)
		pass(t, at(t, ahead), left)
	}
}

// Time is the sum of what went by.
func TestNow(t *testing.T) {
	c, sum := New(), 0
	for n := range 100 {
		set(t, c, n, sum, api.OK) // bells do not move it
		pass(t, c, n, n)
		sum += n
		now(t, c, sum)
		now(t, c, sum)
	}
}

// A bell rings in the very Pass that brings its time, and in none else.
func TestRings(t *testing.T) {
	for when := range 6 {
		for n := 1; n < 8; n++ {
			c := filled(t, ring{9, when})
			for ahead := 0; ahead < 12; ahead += n {
				if when <= ahead+n && (when > ahead || ahead == 0) {
					pass(t, c, n, 9)
				} else {
					pass(t, c, n)
				}
			}
		}
	}
}

func TestLater(t *testing.T) {
	c := filled(t, ring{1, 5}, ring{2, 6}, ring{3, api.MaxTime})
	pass(t, c, 4)
	pass(t, c, 1, 1)
	pass(t, c, 0)
	pass(t, c, 1, 2)
	pass(t, c, api.MaxTime-7)
	stop(t, c, 2, api.ErrNone)
	pass(t, c, 1, 3)
	pass(t, c, 0)
}

// Unlike times, set in any order.
func TestUnlikeTimes(t *testing.T) {
	list := []ring{{7, 1}, {2, 2}, {lastBell, 3}, {0, 4}, {3, 1 << 33}}
	for _, o := range orders(list) {
		pass(t, filled(t, o...), 1<<33, 7, 2, lastBell, 0, 3)
		c := filled(t, o...)
		pass(t, c, 2, 7, 2)
		pass(t, c, 2, lastBell, 0)
		pass(t, c, 1<<33, 3)
	}
}

// Equal times, set in any order.
func TestEqualTimes(t *testing.T) {
	list := []ring{{0, 3}, {1, 3}, {9, 3}, {10, 3}, {lastBell, 3}}
	for _, o := range orders(list) {
		pass(t, filled(t, o...), 3, 0, 1, 9, 10, lastBell)
		pass(t, filled(t, o...), 1000, 0, 1, 9, 10, lastBell)
	}
}

// Some equal, some not.
func TestMixedTimes(t *testing.T) {
	list := []ring{{1, 4}, {3, 4}, {2, 3}, {4, 3}, {0, 5}, {5, 0}}
	for _, o := range orders(list) {
		pass(t, filled(t, o...), 5, 5, 2, 4, 1, 3, 0)
	}
}

// All bells at once: of one time, of falling times, and of times by threes.
func TestAllAtOnce(t *testing.T) {
	var up, down, threes []int
	one, falling, third := New(), New(), New()
	for i := range api.MaxList {
		bell := i * 1111 % api.MaxList // each once, as 1111 is odd
		set(t, one, bell, 77, api.OK)
		set(t, falling, bell, api.MaxList-bell, api.OK)
		set(t, third, bell, 3-bell%3, api.OK)
		up = append(up, i)
		down = append(down, lastBell-i)
	}
	for rest := 2; rest >= 0; rest-- {
		for bell := rest; bell < api.MaxList; bell += 3 {
			threes = append(threes, bell)
		}
	}
	pass(t, one, 76)
	pass(t, one, 1, up...)
	pass(t, falling, api.MaxList, down...)
	pass(t, third, 3, threes...)
	for _, c := range []*Clock{one, falling, third} {
		pass(t, c, 1000)
		for bell := range api.MaxList {
			stop(t, c, bell, api.ErrNone)
		}
	}
}

// The same calls give the same answers, however often they are made.
func TestSameAgain(t *testing.T) {
	var list []ring
	for i := range 40 {
		list = append(list, ring{bell: i * 97 % api.MaxList, at: i % 7})
	}
	want, _ := filled(t, list...).Pass(6)
	if len(want) != 40 {
		t.Fatalf("Pass: %v", want)
	}
	for range 200 {
		pass(t, filled(t, list...), 6, want...)
	}
}

// scratch turns all numbers of a list, its spare room included.
func scratch(list []int) {
	list = list[:cap(list)]
	for i := range list {
		list[i] = -7
	}
}

// What rang is the caller's: what he does with the list, or with its spare room, is nothing to the clock, nor to other answers.
func TestMemory(t *testing.T) {
	c := filled(t, ring{1, 1}, ring{2, 1}, ring{3, 1}, ring{4, 2}, ring{5, 3}, ring{6, 9})
	first, _ := c.Pass(1)
	second, _ := c.Pass(1)
	kept := slices.Clone(second)
	scratch(first)
	if !slices.Equal(second, kept) || !slices.Equal(kept, []int{4}) {
		t.Errorf("the other answer is now %v", second)
	}
	scratch(second)
	pass(t, c, 1, 5)
	set(t, c, 1, 4, api.OK)
	set(t, c, 2, 4, api.OK)
	pass(t, c, 1, 1, 2)
	for _, list := range [][]int{first, second} {
		for _, n := range list[:cap(list)] {
			if n != -7 {
				t.Errorf("behind more calls the list is %v", list[:cap(list)])
			}
		}
	}
	pass(t, c, 5, 6)
}

// All promises together

// plain: a clock as the words say it, in a list, by one moment at a time.
type plain struct {
	now int
	all []ring
}

func (p *plain) where(bell int) int {
	return slices.IndexFunc(p.all, func(r ring) bool { return r.bell == bell })
}

func (p *plain) set(bell, at int) api.Errno {
	if bell < 0 || bell > lastBell {
		return api.ErrArg
	}
	if at < p.now {
		return api.ErrOld
	}
	if at > api.MaxTime {
		return api.ErrRange
	}
	p.stop(bell)
	p.all = append(p.all, ring{bell, at})
	return api.OK
}

func (p *plain) stop(bell int) api.Errno {
	if bell < 0 || bell > lastBell {
		return api.ErrArg
	}
	i := p.where(bell)
	if i < 0 {
		return api.ErrNone
	}
	p.all = slices.Delete(p.all, i, i+1)
	return api.OK
}

// moment: those that ring at this time, the least one first.
func (p *plain) moment() []int {
	var out []int
	for _, r := range p.all {
		if r.at == p.now {
			out = append(out, r.bell)
		}
	}
	slices.Sort(out)
	for _, bell := range out {
		p.stop(bell)
	}
	return out
}

func (p *plain) pass(n int) ([]int, api.Errno) {
	if n < 0 {
		return nil, api.ErrArg
	}
	if n > api.MaxTime || p.now+n > api.MaxTime {
		return nil, api.ErrRange
	}
	out := p.moment()
	for range n {
		p.now++
		out = append(out, p.moment()...)
	}
	return out, api.OK
}

// step: one call of a clock, and of one as the words say it: are the answers the same?
type step struct {
	name string
	do   func(c *Clock, p *plain) bool
}

// setStep: by so much behind now, or ahead of it.
func setStep(bell, by int) step {
	return step{fmt.Sprint("set ", bell, " by ", by), func(c *Clock, p *plain) bool { return c.Set(bell, p.now+by) == p.set(bell, p.now+by) }}
}

func stopStep(bell int) step {
	return step{fmt.Sprint("stop ", bell), func(c *Clock, p *plain) bool { return c.Stop(bell) == p.stop(bell) }}
}

func passStep(n int) step {
	return step{fmt.Sprint("pass ", n), func(c *Clock, p *plain) bool {
		list, e := c.Pass(n)
		want, wanted := p.pass(n)
		return slices.Equal(list, want) && e == wanted
	}}
}

// walk: goes this way with a clock at that time, and fails where it is not what the words say; then all that are set ring.
func walk(t *testing.T, start int, way []step) {
	t.Helper()
	c, p := at(t, start), &plain{now: start}
	for i, s := range way {
		if !s.do(c, p) || c.Now() != p.now {
			t.Fatalf("from %d on: at %d: now %d, not %d: %v", start, i, c.Now(), p.now, names(way[:i+1]))
		}
	}
	for range 12 {
		n := min(1, api.MaxTime-p.now)
		if !passStep(n).do(c, p) || c.Now() != p.now {
			t.Fatalf("from %d on: behind all: at %d: %v", start, p.now, names(way))
		}
	}
}

func names(way []step) []string {
	var out []string
	for _, s := range way {
		out = append(out, s.name)
	}
	return out
}

// All ways of a few calls.
func TestShortWays(t *testing.T) {
	var all []step
	for _, bell := range []int{0, 1, lastBell} {
		all = append(all, setStep(bell, 0), setStep(bell, 1), setStep(bell, 2), stopStep(bell))
	}
	all = append(all, setStep(1, -1), setStep(api.MaxList, 1), setStep(-1, 1), stopStep(-1), passStep(-1), passStep(0), passStep(1), passStep(2))
	for _, start := range []int{0, 1, api.MaxTime - 3, api.MaxTime - 1, api.MaxTime} {
		var further func(way []step, more int)
		further = func(way []step, more int) {
			if more == 0 {
				walk(t, start, way)
				return
			}
			for _, s := range all {
				further(append(way[:len(way):len(way)], s), more-1)
			}
		}
		further(nil, 4)
	}
}

// Some ways of many calls, the same ones each time.
func TestLongWays(t *testing.T) {
	all := []step{setStep(-1, 1), setStep(api.MaxList, 1), stopStep(-1), stopStep(api.MaxList), passStep(-1), passStep(math.MaxInt)}
	for i := range 9 {
		bell := i * lastBell / 8
		for by := -1; by < 9; by++ {
			all = append(all, setStep(bell, by))
		}
		all = append(all, stopStep(bell), passStep(i), passStep(i%3), passStep(0))
	}
	pick := rand.New(rand.NewPCG(9, 1))
	for range 3000 {
		way := make([]step, 80)
		for i := range way {
			way[i] = all[pick.IntN(len(all))]
		}
		for _, start := range []int{0, 1000, api.MaxTime - 40} {
			walk(t, start, way)
		}
	}
}
