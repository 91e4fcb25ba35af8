package referee

import (
	"fmt"
	"math"
	"math/rand/v2"
	"slices"
	"strings"
	"testing"

	"roundhouse/api"
)

const (
	least = math.MinInt
	most  = math.MaxInt
)

func put(key, value string) api.Change { return api.Change{Kind: api.Put, Key: key, Value: value} }

func clearOf(key string) api.Change { return api.Change{Kind: api.Clear, Key: key} }

func wipe(from, to string) api.Change { return api.Change{Kind: api.Wipe, Key: from, Value: to} }

func of(from, to string) api.Span { return api.Span{From: from, To: to} }

// single: the span of one key alone.
func single(key string) api.Span { return of(key, key+"\x00") }

// all: the span of all keys that a transaction can write.
func all() api.Span { return of("", strings.Repeat("\xff", api.MaxKey+1)) }

// writes: a transaction that reads nothing.
func writes(list ...api.Change) api.Txn { return api.Txn{Changes: list} }

// reads: a transaction that changes nothing.
func reads(read int, list ...api.Span) api.Txn { return api.Txn{Read: read, Reads: list} }

// both: one that reads a span at a version, and does these changes.
func both(read int, s api.Span, list ...api.Change) api.Txn {
	return api.Txn{Read: read, Reads: []api.Span{s}, Changes: list}
}

// unsound: a transaction that is not; for all else it would write all keys.
func unsound() api.Txn {
	return api.Txn{Read: -1, Changes: []api.Change{wipe(all().From, all().To)}}
}

// many: so many transactions that write a key.
func many(n int) []api.Txn { return slices.Repeat([]api.Txn{writes(put("many", ""))}, n) }

// wrote: a span of keys was written at a version.
type wrote struct {
	version int
	api.Span
}

// plain: a referee as the words say it, that has all that was ever written in its epoch.
type plain struct {
	epoch, base int
	versions    []int // of the batches of this epoch
	verdicts    [][]int
	all         []wrote
}

// version: up to where it has judged.
func (p *plain) version() int {
	if len(p.versions) == 0 {
		return p.base
	}
	return p.versions[len(p.versions)-1]
}

// floor: below which who reads is late.
func (p *plain) floor() int {
	if len(p.versions) == 0 {
		return p.base
	}
	return max(p.base, p.version()-100)
}

func (p *plain) begin(epoch, version int) api.Errno {
	switch {
	case epoch < 1 || version < 0:
		return api.ErrArg
	case epoch < p.epoch:
		return api.ErrOld
	case epoch > p.epoch:
		*p = plain{epoch: epoch, base: version}
	}
	return api.OK
}

func (p *plain) judge(epoch, prev, version int, list []api.Txn) ([]int, api.Errno) {
	last := p.version()
	switch {
	case p.epoch == 0 || epoch != p.epoch:
		return nil, api.ErrNone
	case len(p.versions) > 0 && version == last:
		return p.verdicts[len(p.verdicts)-1], api.OK
	case version < last:
		return nil, api.ErrOld
	case version == last || prev != last:
		return nil, api.ErrOrder
	case len(list) > 4 || slices.ContainsFunc(list, isUnsound):
		return nil, api.ErrForm
	}
	var out []int
	for _, x := range list {
		v := p.verdict(x)
		if v == 1 {
			p.write(version, x.Changes)
		}
		out = append(out, v)
	}
	p.versions, p.verdicts = append(p.versions, version), append(p.verdicts, out)
	return out, api.OK
}

// isUnsound: by the faults alone that the tests' transactions have here.
func isUnsound(x api.Txn) bool {
	return x.Read < 0 || slices.ContainsFunc(x.Reads, func(s api.Span) bool { return s.From > s.To }) || slices.ContainsFunc(x.Changes, func(c api.Change) bool { return c.Kind < 1 || c.Kind > 3 })
}

func (p *plain) verdict(x api.Txn) int {
	if len(x.Reads) > 0 && x.Read < p.floor() {
		return 3
	}
	for _, s := range x.Reads {
		for _, w := range p.all {
			if w.version > x.Read && max(s.From, w.From) < min(s.To, w.To) {
				return 2
			}
		}
	}
	return 1
}

func (p *plain) write(version int, list []api.Change) {
	for _, c := range list {
		s := single(c.Key)
		if c.Kind == 3 {
			s = of(c.Key, c.Value)
		}
		p.all = append(p.all, wrote{version, s})
	}
}

// last: the version above the floor at which the key was written last; 0: there is none.
func (p *plain) last(key string) int {
	out := 0
	for _, w := range p.all {
		if w.version > p.floor() && w.From <= key && key < w.To {
			out = max(out, w.version)
		}
	}
	return out
}

// size: how many spans tell so of all keys.
func (p *plain) size() int {
	ends := []string{all().To}
	for _, w := range p.all {
		ends = append(ends, w.From, w.To)
	}
	slices.Sort(ends)
	out, was := 0, 0
	for _, from := range slices.Compact(ends) {
		now := p.last(from)
		if now != was && now > 0 {
			out++
		}
		was = now
	}
	return out
}

// call: one of a referee, with what it is called with.
type call struct {
	judge                bool // else it is Begin
	epoch, prev, version int
	list                 []api.Txn
}

func begin(epoch, version int) call { return call{epoch: epoch, version: version} }

func judge(epoch, prev, version int, list ...api.Txn) call {
	return call{judge: true, epoch: epoch, prev: prev, version: version, list: list}
}

func (x call) String() string {
	if !x.judge {
		return fmt.Sprintf("Begin(%d, %d)", x.epoch, x.version)
	}
	return fmt.Sprintf("Judge(%d, %d, %d, %.300q)", x.epoch, x.prev, x.version, fmt.Sprint(x.list))
}

// of does a call.
func (x call) of(r *Referee) ([]int, api.Errno) {
	if !x.judge {
		return nil, r.Begin(x.epoch, x.version)
	}
	return r.Judge(x.epoch, x.prev, x.version, x.list...)
}

// ofPlain does it to a plain one.
func (x call) ofPlain(p *plain) ([]int, api.Errno) {
	if !x.judge {
		return nil, p.begin(x.epoch, x.version)
	}
	return p.judge(x.epoch, x.prev, x.version, x.list)
}

// pair: a referee, and one as the words say it.
type pair struct {
	t testing.TB
	r *Referee
	p *plain
}

// newPair: new ones, behind some calls.
func newPair(t testing.TB, list ...call) *pair {
	t.Helper()
	x := &pair{t: t, r: New(), p: &plain{}}
	if x.r == nil {
		t.Fatal("New: nil")
	}
	x.same("New")
	x.do(list...)
	return x
}

// do: calls of both that answer OK: are the answers the same, and what is kept?
func (x *pair) do(list ...call) {
	x.t.Helper()
	for _, one := range list {
		want, e := one.ofPlain(x.p)
		if e != api.OK {
			x.t.Fatalf("%s: plainly %d", one, e)
		}
		x.answers(one, e, want)
	}
}

// gives: one Judge of both, and the verdicts that it has to give.
func (x *pair) gives(one call, want ...int) {
	x.t.Helper()
	if plain, e := one.ofPlain(x.p); !slices.Equal(plain, want) || e != api.OK {
		x.t.Errorf("%s: plainly %v, %d; not %v", one, plain, e, want)
	}
	x.answers(one, api.OK, want)
}

// refuses: calls that answer this error, and change nothing.
func (x *pair) refuses(e api.Errno, list ...call) {
	x.t.Helper()
	for _, one := range list {
		was := fmt.Sprint(*x.p)
		if plain, f := one.ofPlain(x.p); plain != nil || f != e || fmt.Sprint(*x.p) != was {
			x.t.Errorf("%s: plainly %v, %d; not %d", one, plain, f, e)
		}
		x.answers(one, e, nil)
	}
}

func (x *pair) answers(one call, e api.Errno, want []int) {
	x.t.Helper()
	if got, f := one.of(x.r); !slices.Equal(got, want) || f != e || f != api.OK && got != nil {
		x.t.Fatalf("%s: %v, %d; not %v, %d", one, got, f, want, e)
	}
	x.same(one.String())
}

// same: is what the referee keeps what the words say?
func (x *pair) same(what string) {
	x.t.Helper()
	for range 2 { // to ask changes nothing
		if n, v := x.r.Ends(); n != x.p.epoch || v != x.p.version() {
			x.t.Fatalf("%s: Ends: %d, %d; not %d, %d", what, n, v, x.p.epoch, x.p.version())
		}
	}
	if x.p.epoch == 0 {
		return
	}
	floor := x.p.floor()
	if floor > 0 && x.r.marks.Forget(floor-1) != api.ErrOld || x.r.marks.Forget(floor) != api.OK {
		x.t.Fatalf("%s: the floor is not %d", what, floor)
	}
	if n := x.r.marks.Size(); n != x.p.size() {
		x.t.Fatalf("%s: %d marks, not %d", what, n, x.p.size())
	}
	for _, key := range []string{"", "a", "a\x00", "b", "c", "d", "many"} {
		if n, ok := x.r.marks.Last(single(key)); n != x.p.last(key) || ok != (n > 0) {
			x.t.Fatalf("%s: %q was written at %d, %v; not at %d", what, key, n, ok, x.p.last(key))
		}
	}
}

// step: a call that hangs on how a referee stands.
type step func(p *plain) call

// beginStep: so much above its epoch, at so much above where it has judged up to.
func beginStep(epoch, by int) step {
	return func(p *plain) call { return begin(p.epoch+epoch, p.version()+by) }
}

// judgeStep: in an epoch so much above its own, with a prev and a version so much above where it has judged up to; what is read is so much above one below the floor, but where that is below 0.
func judgeStep(epoch, prev, by int, list ...api.Txn) step {
	return func(p *plain) call {
		given := slices.Clone(list)
		for i := range given {
			if given[i].Read >= 0 {
				given[i].Read = max(0, p.floor()-1+given[i].Read)
			}
		}
		return judge(p.epoch+epoch, p.version()+prev, p.version()+by, given...)
	}
}

// walk goes this way; behind all, and behind so many steps each time, what is kept is asked.
func walk(t *testing.T, way []step, steps int) {
	t.Helper()
	x := &pair{t: t, r: New(), p: &plain{}}
	var gone []string
	for i, s := range way {
		one := s(x.p)
		gone = append(gone, one.String())
		want, e := one.ofPlain(x.p)
		if got, f := one.of(x.r); !slices.Equal(got, want) || f != e {
			t.Fatalf("%v: %v, %d; not %v, %d", gone, got, f, want, e)
		}
		if (i+1)%steps == 0 || i == len(way)-1 {
			x.same(fmt.Sprint(gone))
		}
	}
}

// All ways of a few calls.
func TestShortWays(t *testing.T) {
	steps := []step{
		beginStep(1, 0), beginStep(1, 7), beginStep(2, -10), beginStep(0, 0), beginStep(0, 3), beginStep(-1, 1),
		judgeStep(0, 0, 0, writes(put("a", ""))), judgeStep(0, 0, -1), judgeStep(0, 1, 2), judgeStep(0, -1, 1), judgeStep(1, 0, 1), judgeStep(-1, 0, 1),
		judgeStep(0, 0, 1, unsound()),
		judgeStep(0, 0, 1, writes(put("a", "")), both(1, single("b"), put("b", "")), reads(0, all())),
		judgeStep(0, 0, 60, both(1, of("a", "c"), wipe("a", "c")), both(60, single("b"), clearOf("a"))),
		judgeStep(0, 0, 101, reads(1, all()), both(2, single("a"), put("c", ""))),
		judgeStep(0, 0, 10),
	}
	var further func(way []step, more int)
	further = func(way []step, more int) {
		if more == 0 {
			walk(t, way, len(way))
			return
		}
		for _, s := range steps {
			further(append(way[:len(way):len(way)], s), more-1)
		}
	}
	for more := range 5 {
		further(nil, more)
	}
	for _, s := range steps { // and of some more, in an epoch
		further([]step{beginStep(3, 50), judgeStep(0, 0, 50, writes(put("b", ""))), s}, 3)
	}
}

// picked: a transaction of some keys.
func picked(pick *rand.Rand) api.Txn {
	ends := []string{"", "a", "a\x00", "b", "b\x00", "c", "d", all().To}
	two := func() (string, string) {
		a, b := ends[pick.IntN(len(ends))], ends[pick.IntN(len(ends))]
		return min(a, b), max(a, b)
	}
	x := api.Txn{Read: pick.IntN(130)}
	for range pick.IntN(3) {
		x.Reads = append(x.Reads, of(two()))
	}
	for range pick.IntN(3) {
		x.Changes = append(x.Changes, []api.Change{put(ends[pick.IntN(7)], "v"), clearOf(ends[pick.IntN(7)]), wipe(two())}[pick.IntN(3)])
	}
	return x
}

// Some ways of many calls, the same ones each time.
func TestLongWays(t *testing.T) {
	pick := rand.New(rand.NewPCG(17, 1))
	var judges []step
	for range 200 {
		var list []api.Txn
		for range pick.IntN(5) {
			list = append(list, picked(pick))
		}
		judges = append(judges, judgeStep(0, 0, 1+pick.IntN(30), list...))
	}
	others := []step{
		beginStep(1, 0), beginStep(1, 20), beginStep(1, -50), beginStep(0, 5), beginStep(-1, 0), beginStep(0, -1000000),
		judgeStep(0, 0, 0), judgeStep(0, 5, 0, unsound()), judgeStep(0, 0, 0, many(2)...), judgeStep(0, 0, -1, many(1)...),
		judgeStep(0, 0, 5, unsound()), judgeStep(0, 0, 5, many(5)...), judgeStep(0, 1, 5), judgeStep(0, -1, 5, many(1)...),
		judgeStep(1, 0, 5), judgeStep(-1, 0, 5), judgeStep(0, 0, 99), judgeStep(0, 0, 100), judgeStep(0, 0, 101), judgeStep(0, 0, 250, many(1)...),
	}
	for range 400 {
		way := []step{beginStep(1+pick.IntN(3), pick.IntN(300))}
		for range 80 {
			from := judges
			if pick.IntN(4) == 0 {
				from = others
			}
			way = append(way, from[pick.IntN(len(from))])
		}
		walk(t, way, 9)
	}
}
