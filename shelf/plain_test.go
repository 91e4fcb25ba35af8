package shelf

import (
	"encoding/binary"
	"fmt"
	"hash/crc32"
	"maps"
	"math"
	"math/rand/v2"
	"slices"
	"strings"
	"testing"

	"roundhouse/api"
	"roundhouse/tape"
)

const (
	least = math.MinInt
	most  = math.MaxInt
)

func put(key, value string) api.Change { return api.Change{Kind: api.Put, Key: key, Value: value} }

func clearOf(key string) api.Change { return api.Change{Kind: api.Clear, Key: key} }

func wipe(from, to string) api.Change { return api.Change{Kind: api.Wipe, Key: from, Value: to} }

func of(from, to string) api.Span { return api.Span{From: from, To: to} }

// all: the span of all keys that a change can put, and of some more.
func all() api.Span { return of("", strings.Repeat("\xff", api.MaxKey+9)) }

// b: a batch of some changes; all ahead of it is known.
func b(prev, version int, list ...api.Change) api.Batch {
	return api.Batch{Prev: prev, Version: version, Known: max(prev, 0), Changes: list}
}

// pairs: of a key and a value each.
func pairs(list ...string) []api.Pair {
	var out []api.Pair
	for i := 0; i < len(list); i += 2 {
		out = append(out, api.Pair{Key: list[i], Value: list[i+1]})
	}
	return out
}

// state: what keys were from a version on.
type state struct {
	version int
	keys    map[string]string
}

func (s state) copied() state { return state{s.version, maps.Clone(s.keys)} }

// plain: a shelf as the words say it, with a tape that has room for all, and does not go down; it keeps the whole of what keys were at each version.
type plain struct {
	span   api.Span
	states []state // the first one's version is the first
	last   int
	saved  *state
}

func newPlain(s api.Span) *plain {
	return &plain{span: s, states: []state{{0, map[string]string{}}}}
}

// anew: what Open finds behind a crash.
func (p *plain) anew() {
	found := state{0, map[string]string{}}
	if p.saved != nil {
		found = p.saved.copied()
	}
	p.states, p.last = []state{found}, found.version
}

func (p *plain) first() int { return p.states[0].version }

// at: what keys were at a version that is known, as a state of that version.
func (p *plain) at(version int) state {
	var out state
	for _, s := range p.states {
		if s.version <= version {
			out = s
		}
	}
	out = out.copied()
	out.version = version
	return out
}

func (p *plain) known(version int) api.Errno {
	switch {
	case version < p.first():
		return api.ErrOld
	case version > p.last:
		return api.ErrNew
	}
	return api.OK
}

// isIn: is a key in a span?
func isIn(s api.Span, key string) bool { return key >= s.From && key < s.To }

// isUnsound: by the words of chapters 4 and 5.
func isUnsound(x api.Batch) bool {
	return x.Prev < 0 || x.Version < 0 || x.Known < 0 || len(x.Changes) > 4096 || slices.ContainsFunc(x.Changes, func(c api.Change) bool {
		switch c.Kind {
		case 1:
			return len(c.Key) > 16 || len(c.Value) > 64
		case 2:
			return len(c.Key) > 16 || c.Value != ""
		case 3:
			return len(c.Key) > 17 || len(c.Value) > 17 || c.Key > c.Value
		}
		return true
	})
}

func (p *plain) take(x api.Batch) api.Errno {
	switch {
	case isUnsound(x):
		return api.ErrForm
	case x.Version <= p.last:
		return api.OK
	case x.Prev > p.last || x.Prev >= x.Version:
		return api.ErrOrder
	}
	now := p.at(p.last)
	now.version = x.Version
	for _, c := range x.Changes {
		maps.DeleteFunc(now.keys, func(key, _ string) bool {
			return c.Kind == 3 && isIn(of(c.Key, c.Value), key) || c.Kind != 3 && c.Key == key
		})
		if c.Kind == 1 && isIn(p.span, c.Key) {
			now.keys[c.Key] = c.Value
		}
	}
	p.states, p.last = append(p.states, now), x.Version
	return api.OK
}

func (p *plain) get(key string, version int) (string, bool, api.Errno) {
	if e := p.known(version); e != api.OK {
		return "", false, e
	}
	if !isIn(p.span, key) {
		return "", false, api.ErrRange
	}
	value, has := p.at(version).keys[key]
	return value, has, api.OK
}

func (p *plain) list(x api.Span, version, most int) ([]api.Pair, api.Errno) {
	if e := p.known(version); e != api.OK {
		return nil, e
	}
	if most < 0 {
		return nil, api.ErrArg
	}
	var out []api.Pair
	for _, y := range p.at(version).pairs() {
		if isIn(x, y.Key) && isIn(p.span, y.Key) && len(out) < most {
			out = append(out, y)
		}
	}
	return out, api.OK
}

func (s state) pairs() []api.Pair {
	var out []api.Pair
	for _, key := range slices.Sorted(maps.Keys(s.keys)) {
		out = append(out, api.Pair{Key: key, Value: s.keys[key]})
	}
	return out
}

func (p *plain) back(version int) api.Errno {
	if e := p.known(version); e != api.OK {
		return e
	}
	p.states = slices.DeleteFunc(p.states, func(s state) bool { return s.version > version })
	p.last = version
	return api.OK
}

func (p *plain) save(version int) api.Errno {
	if e := p.known(version); e != api.OK {
		return e
	}
	now := p.at(version)
	if len(recordBytes(version, now.pairs()...)) > 65536-4 {
		return api.ErrLarge
	}
	kept := now.copied()
	p.saved = &kept
	p.states = append([]state{now}, slices.DeleteFunc(p.states, func(s state) bool { return s.version <= version })...)
	return api.OK
}

// view: what may be asked of it, as a text: what keys were at each version at which something was done.
func (p *plain) view() string {
	out := fmt.Sprint(p.first(), " to ", p.last, ", saved ", p.saved != nil)
	for _, s := range p.states {
		out += fmt.Sprintf("; %d: %q", s.version, s.pairs())
	}
	return out
}

// recordBytes: a record, made in another way than the program's: the library's numbers are the same.
func recordBytes(version int, list ...api.Pair) []byte {
	out := binary.AppendUvarint(nil, uint64(version))
	out = binary.AppendUvarint(out, uint64(len(list)))
	for _, x := range list {
		out = append(out, textBytes(x.Key)...)
		out = append(out, textBytes(x.Value)...)
	}
	return out
}

func textBytes(s string) []byte {
	return append(binary.AppendUvarint(nil, uint64(len(s))), s...)
}

// laidBytes: records as they stand on a tape, made likewise.
func laidBytes(list ...[]byte) []byte {
	var out []byte
	for _, s := range list {
		out = binary.AppendUvarint(out, uint64(len(s)+4))
		out = binary.LittleEndian.AppendUint32(out, crc32.Checksum(s, crc32.MakeTable(crc32.Castagnoli)))
		out = append(out, s...)
	}
	return out
}

// text: what has to stand on its tape.
func (p *plain) text() []byte {
	if p.saved == nil {
		return nil
	}
	return laidBytes(recordBytes(p.saved.version, p.saved.pairs()...))
}

// tapeOf: one with so much room, on which these bytes stand and last.
func tapeOf(t testing.TB, room int, text []byte) *tape.Tape {
	t.Helper()
	p, e := tape.New(room)
	if e != api.OK || p.Replace(text) != api.OK {
		t.Fatalf("no tape of %d bytes in room for %d", len(text), room)
	}
	return p
}

// open: the shelf on a tape.
func open(t testing.TB, p *tape.Tape, s api.Span) *Shelf {
	t.Helper()
	out, e := Open(p, s)
	if out == nil || e != api.OK {
		t.Fatalf("Open: %v, %d", out, e)
	}
	return out
}

// call: one of a shelf, with what it is called with.
type call struct {
	name    string
	batch   api.Batch
	key     string
	span    api.Span
	version int
	most    int
}

func take(x api.Batch) call      { return call{name: "Take", batch: x} }
func get(key string, v int) call { return call{name: "Get", key: key, version: v} }
func back(version int) call      { return call{name: "Back", version: version} }
func save(version int) call      { return call{name: "Save", version: version} }
func (x call) with(v int) call   { x.version = v; return x }
func list(s api.Span, v, n int) call {
	return call{name: "List", span: s, version: v, most: n}
}

func (x call) String() string {
	return fmt.Sprintf("%s %.200q", x.name, fmt.Sprint(x.batch, x.key, x.span, x.version, x.most))
}

// asked: a Get of each key at a version, and Lists.
func asked(version int, keys ...string) []call {
	out := []call{list(all(), version, most), list(all(), version, 0), list(all(), version, 1), list(of("", ""), version, most), list(of("z", "a"), version, most)}
	for i, key := range keys {
		out = append(out, get(key, version), list(of(key, keys[(i*7+3)%len(keys)]), version, 2))
	}
	return out
}

// answer: what a call answers.
type answer struct {
	value string
	has   bool
	list  []api.Pair
	e     api.Errno
}

func (a answer) text() string { return fmt.Sprintf("%q, %v, %q, %d", a.value, a.has, a.list, a.e) }

// is: an answer that is only an error, or OK.
func is(e api.Errno) answer { return answer{e: e} }

// of does a call.
func (x call) of(s *Shelf) (y answer) {
	switch x.name {
	case "Take":
		y.e = s.Take(x.batch)
	case "Get":
		y.value, y.has, y.e = s.Get(x.key, x.version)
	case "List":
		y.list, y.e = s.List(x.span, x.version, x.most)
	case "Back":
		y.e = s.Back(x.version)
	case "Save":
		y.e = s.Save(x.version)
	}
	return y
}

// ofPlain does it to a plain one.
func (x call) ofPlain(p *plain) (y answer) {
	switch x.name {
	case "Take":
		y.e = p.take(x.batch)
	case "Get":
		y.value, y.has, y.e = p.get(x.key, x.version)
	case "List":
		y.list, y.e = p.list(x.span, x.version, x.most)
	case "Back":
		y.e = p.back(x.version)
	case "Save":
		y.e = p.save(x.version)
	}
	return y
}

// keys: some that are asked for.
func keys() []string {
	return []string{"", "a", "a\xff", "b", "b\x00", "c", "d", "l", "l\xff\xff", "m", "m\x00", "z", strings.Repeat("b", api.MaxKey), strings.Repeat("b", api.MaxKey+1)}
}

// pair: a shelf on a tape, and one as the words say it.
type pair struct {
	t testing.TB
	s *Shelf
	p *tape.Tape
	q *plain
}

// newPair: an empty one of a span, with all room that may be, behind some calls.
func newPair(t testing.TB, s api.Span, list ...call) *pair {
	t.Helper()
	p := tapeOf(t, api.MaxTape, nil)
	x := &pair{t: t, s: open(t, p, s), p: p, q: newPlain(s)}
	x.same("new")
	x.do(list...)
	return x
}

// middle: the span of most tests' shelves.
func middle() api.Span { return of("b", "m") }

// do: calls of both: are the answers the same, and what is kept?
func (x *pair) do(list ...call) {
	x.t.Helper()
	for _, one := range list {
		x.answers(one, one.ofPlain(x.q))
	}
}

// gives: one call of both, and what it has to answer.
func (x *pair) gives(one call, want answer) {
	x.t.Helper()
	was := x.q.view()
	if plain := one.ofPlain(x.q).text(); plain != want.text() {
		x.t.Errorf("%s: plainly %s; not %s; it was %s", one, plain, want.text(), was)
	}
	x.answers(one, want)
}

// refuses: calls that answer this error, and change nothing.
func (x *pair) refuses(e api.Errno, list ...call) {
	x.t.Helper()
	was := x.q.view()
	for _, one := range list {
		x.gives(one, is(e))
	}
	if now := x.q.view(); now != was {
		x.t.Errorf("changed to %s; it was %s", now, was)
	}
}

func (x *pair) answers(one call, want answer) {
	x.t.Helper()
	if got := one.of(x.s); got.text() != want.text() || got.e != api.OK && got.list != nil {
		x.t.Fatalf("%s: %s; not %s; it is %s", one, got.text(), want.text(), x.q.view())
	}
	x.same(one.String())
}

// lookups: what is asked to know what is kept: of all versions beside which something was done.
func (x *pair) lookups() []call {
	var out []call
	for _, s := range x.q.states {
		for _, version := range []int{s.version - 1, s.version, s.version + 1} {
			out = append(out, list(all(), version, most))
		}
	}
	return append(out, list(all(), x.q.last, most), list(all(), x.q.last+1, most), list(all(), x.q.first()-1, most), get("c", x.q.last))
}

// same: is what the shelf keeps what the words say, in memory, and on the tape, for whoever opens it anew?
func (x *pair) same(what string) {
	x.t.Helper()
	x.sameNow(what, x.s, x.q)
	stands(x.t, what, x.p, x.q.text())
	p := tapeOf(x.t, len(x.q.text()), x.q.text())
	p.Fail(0) // nothing is written by Open
	q := *x.q
	q.anew()
	x.sameNow(what+", anew", open(x.t, p, q.span), &q)
}

// sameNow: is what a shelf keeps in memory what a plain one does?
func (x *pair) sameNow(what string, s *Shelf, q *plain) {
	x.t.Helper()
	if first, last := s.Ends(); first != q.first() || last != q.last {
		x.t.Fatalf("%s: Ends: %d, %d; not %s", what, first, last, q.view())
	}
	y := pair{t: x.t, s: s, q: q}
	for _, one := range y.lookups() {
		if got, want := one.of(s).text(), one.ofPlain(q).text(); got != want {
			x.t.Fatalf("%s: %s: %s; not %s; of %s", what, one, got, want, q.view())
		}
	}
}

// stands: is this what stands on the tape, and lasts?
func stands(t testing.TB, what string, p *tape.Tape, want []byte) {
	t.Helper()
	if got, e := p.Bytes(); string(got) != string(want) || e != api.OK || p.Loose() != 0 {
		t.Fatalf("%s: the tape has %.300q, %d, %d loose; not %.300q", what, got, e, p.Loose(), want)
	}
}

// anew: the tape crashes, and has the shelf opened.
func (x *pair) anew() {
	x.t.Helper()
	x.p.Crash(0, 1)
	x.s = open(x.t, x.p, x.q.span)
	x.q.anew()
	x.same("anew")
}

// step: a call that hangs on how a shelf stands; nil: it is opened anew.
type step func(p *plain) call

// takeStep: a prev and a version so much above the last one.
func takeStep(prev, by int, list ...api.Change) step {
	return func(p *plain) call { return take(b(p.last+prev, p.last+by, list...)) }
}

// ofLast, ofFirst: a call at a version so much above the last one, or the first one.
func ofLast(by int, one call) step { return func(p *plain) call { return one.with(p.last + by) } }

func ofFirst(by int, one call) step {
	return func(p *plain) call { return one.with(p.first() + by) }
}

// walk goes this way; what is kept is asked behind all of it.
func walk(t *testing.T, way []step) *pair {
	t.Helper()
	p := tapeOf(t, 5000, nil)
	x := &pair{t: t, s: open(t, p, middle()), p: p, q: newPlain(middle())}
	var gone []string
	for _, next := range way {
		if next == nil {
			gone = append(gone, "anew")
			x.anew()
			continue
		}
		one := next(x.q)
		gone = append(gone, one.String())
		want := one.ofPlain(x.q)
		if got := one.of(x.s); got.text() != want.text() {
			t.Fatalf("%v: %s, not %s", gone, got.text(), want.text())
		}
	}
	x.same(fmt.Sprint(gone))
	return x
}

// All ways of a few calls.
func TestShortWays(t *testing.T) {
	steps := []step{
		nil,
		takeStep(0, 1, put("b", "1"), put("a", "2"), put("d", "3")),
		takeStep(-1, 2, wipe("a", "c"), put("l", "4"), put("m", "5")),
		takeStep(0, 3, clearOf("b"), wipe("c", "z")),
		takeStep(0, 0, put("c", "6")), takeStep(-2, -1, put("c", "6")), takeStep(1, 2, put("c", "7")),
		ofLast(0, back(0)), ofLast(-1, back(0)), ofLast(-2, back(0)), ofLast(1, back(0)), ofFirst(0, back(0)),
		ofLast(0, save(0)), ofLast(-1, save(0)), ofFirst(0, save(0)), ofFirst(-1, save(0)), ofLast(1, save(0)),
	}
	var further func(way []step, more int)
	further = func(way []step, more int) {
		if more == 0 {
			walk(t, way)
			return
		}
		for _, s := range steps {
			further(append(way[:len(way):len(way)], s), more-1)
		}
	}
	for more := range 5 {
		further(nil, more)
	}
}

// picked: a batch of some keys behind the last one.
func picked(pick *rand.Rand, p *plain) api.Batch {
	ends := keys()
	two := func() (string, string) {
		a, b := ends[pick.IntN(len(ends))], ends[pick.IntN(len(ends))]
		return min(a, b), max(a, b)
	}
	key := func() string { return ends[pick.IntN(len(ends)-1)] }
	x := b(max(0, p.last-pick.IntN(3)), p.last+1+pick.IntN(5))
	for range pick.IntN(5) {
		value := strings.Repeat("v", pick.IntN(api.MaxValue+1))
		x.Changes = append(x.Changes, []api.Change{put(key(), value), put(key(), "w"), clearOf(key()), wipe(two())}[pick.IntN(4)])
	}
	return x
}

// next: a call that goes on with what there is, more often than not.
func next(pick *rand.Rand, p *plain) call {
	version := p.first() + pick.IntN(p.last-p.first()+1)
	switch pick.IntN(12) {
	case 0:
		return save(version)
	case 1:
		return back(p.last - pick.IntN(4))
	case 2:
		return save(version + pick.IntN(5) - 2)
	case 3:
		return back(version + pick.IntN(5) - 2)
	case 4:
		x := picked(pick, p)
		x.Prev = p.last + pick.IntN(4)
		return take(x)
	case 5:
		x := picked(pick, p)
		x.Version = max(0, p.last-pick.IntN(4))
		return take(x)
	}
	return take(picked(pick, p))
}

// Some ways of many calls, the same ones each time.
func TestLongWays(t *testing.T) {
	pick := rand.New(rand.NewPCG(18, 1))
	for _, s := range []api.Span{middle(), all17(), of("", "b"), of("b\x00", "z"), of("c", "c\x00")} {
		for range 40 {
			x := newPair(t, s)
			for range 80 {
				if pick.IntN(30) == 0 {
					x.anew()
				}
				x.do(next(pick, x.q))
				for _, one := range asked(x.q.first()+pick.IntN(x.q.last-x.q.first()+3)-1, keys()...) {
					if got, want := one.of(x.s).text(), one.ofPlain(x.q).text(); got != want {
						t.Fatalf("%s: %s; not %s; of %s", one, got, want, x.q.view())
					}
				}
			}
		}
	}
}

// all17: the span of all keys that a shelf can have.
func all17() api.Span { return of("", strings.Repeat("\xff", api.MaxKey+1)) }
