package front

import (
	"bytes"
	"encoding/binary"
	"fmt"
	"maps"
	"math"
	"math/rand/v2"
	"slices"
	"strings"
	"testing"

	"roundhouse/api"
	"roundhouse/frame"
)

const (
	least = math.MinInt
	most  = math.MaxInt
)

func put(key, value string) api.Change { return api.Change{Kind: api.Put, Key: key, Value: value} }

func clearOf(key string) api.Change { return api.Change{Kind: api.Clear, Key: key} }

func wipe(from, to string) api.Change { return api.Change{Kind: api.Wipe, Key: from, Value: to} }

func of(from, to string) api.Span { return api.Span{From: from, To: to} }

func long(n int) string { return strings.Repeat("k", n) }

// top: the end of the last piece.
func top() string { return strings.Repeat("\xff", 17) }

// Bytes, made in another way than the program's: the library's numbers are the same.

func numBytes(list ...int) []byte {
	var out []byte
	for _, n := range list {
		out = binary.AppendUvarint(out, uint64(n))
	}
	return out
}

func textBytes(list ...string) []byte {
	var out []byte
	for _, s := range list {
		out = append(binary.AppendUvarint(out, uint64(len(s))), s...)
	}
	return out
}

func changeBytes(list []api.Change) []byte {
	out := numBytes(len(list))
	for _, c := range list {
		out = append(append(out, numBytes(c.Kind)...), textBytes(c.Key, c.Value)...)
	}
	return out
}

func txnBytes(t api.Txn) []byte {
	out := numBytes(t.Read, len(t.Reads))
	for _, s := range t.Reads {
		out = append(out, textBytes(s.From, s.To)...)
	}
	return append(out, changeBytes(t.Changes)...)
}

func batchBytes(x api.Batch) []byte {
	return append(numBytes(x.Prev, x.Version, x.Known), changeBytes(x.Changes)...)
}

// meet: what two spans have in common; false, if that is no key.
func meet(a, b api.Span) (api.Span, bool) {
	both := of(max(a.From, b.From), min(a.To, b.To))
	return both, both.From < both.To
}

// pieceOf: what a transaction reads and changes from one key on below another.
func pieceOf(t api.Txn, s api.Span) api.Txn {
	out := api.Txn{Read: t.Read}
	for _, r := range t.Reads {
		if both, some := meet(r, s); some {
			out.Reads = append(out.Reads, both)
		}
	}
	for _, c := range t.Changes {
		if c.Kind != api.Wipe {
			if s.From <= c.Key && c.Key < s.To {
				out.Changes = append(out.Changes, c)
			}
		} else if both, some := meet(of(c.Key, c.Value), s); some {
			out.Changes = append(out.Changes, wipe(both.From, both.To))
		}
	}
	return out
}

// fineTxns: transactions that may be committed; no two are the same.
func fineTxns() []api.Txn {
	out := []api.Txn{
		{},
		{Read: 7},
		{Read: most, Changes: []api.Change{clearOf("q")}},
		{Read: 1007, Reads: []api.Span{of("a", "z")}, Changes: []api.Change{put("b", "1"), put("h", "2"), put("t", "3")}},
		{Read: 1007, Reads: []api.Span{of("h", "h"), of("", top())}},
		{Changes: []api.Change{wipe("", top())}},
		{Read: 1, Reads: []api.Span{of("g", "n"), of("f", "g\x00"), of("m\xff", "o")}, Changes: []api.Change{wipe("f", "n"), clearOf("g"), put("n", ""), wipe("g", "g")}},
		{Changes: slices.Repeat([]api.Change{put("m", "1")}, 24)},
		{Reads: slices.Repeat([]api.Span{of("k", "l")}, 24), Changes: []api.Change{put("m", "x")}},
		heavy(),
	}
	for i := range 10 {
		out = append(out, api.Txn{Read: i, Changes: []api.Change{put(fmt.Sprint("key", i), fmt.Sprint(i))}})
	}
	return out
}

// heavy: a transaction of just MaxTxn bytes.
func heavy() api.Txn {
	return api.Txn{Reads: []api.Span{of(long(16), long(17))}, Changes: append(slices.Repeat([]api.Change{put(long(15), long(56))}, 5), put(long(16), long(52)))}
}

// plain: a front as the words say it. It keeps what was asked and not answered, message by message, and knows transactions by a table of the fine ones' bytes.
type plain struct {
	node     int
	state    api.State
	referees []int
	bounds   []string
	fine     map[string]api.Txn

	version, known     int
	ticks, stuck       int
	lives              int
	open               []api.Message
	readers            map[int][2]int // by numbers of Lives: a guest, and its number
	lasts              map[int]int
	queue, in          []given
	going, begun, some bool // does a batch go on, did one begin, and had the last one some?
	said               map[int][]int
	verdicts           []int
}

// given: a transaction whose commit was asked.
type given struct {
	guest, number int
	txn           api.Txn
}

func newPlain(node int, s api.State, version int, referees []int, bounds []string) *plain {
	p := &plain{node: node, state: s, version: version, known: version, referees: referees, bounds: bounds}
	p.readers, p.lasts, p.fine = map[int][2]int{}, map[int]int{}, map[string]api.Txn{}
	for _, t := range fineTxns() {
		p.fine[string(txnBytes(t))] = t
	}
	return p
}

// copied: one on which nothing is done by what is done on the other one.
func (p *plain) copied() *plain {
	out := *p
	out.open, out.queue, out.in = slices.Clone(p.open), slices.Clone(p.queue), slices.Clone(p.in)
	out.readers, out.lasts, out.said = maps.Clone(p.readers), maps.Clone(p.lasts), maps.Clone(p.said)
	return &out
}

func (p *plain) message(kind, to, a, b, c int, body []byte) api.Message {
	return api.Message{Kind: kind, From: p.node, To: to, Epoch: p.state.Epoch, A: a, B: b, C: c, Body: body}
}

// sends: messages that have to be answered.
func (p *plain) sends(list ...api.Message) []api.Message {
	p.open = append(p.open, list...)
	return list
}

// answered: was a message of this kind to who answers sent, and not answered yet? It is, now; and were all others of its kind, and of these numbers?
func (p *plain) answered(kind, from int, alike func(m api.Message) bool) (was, all bool) {
	isOne := func(m api.Message) bool { return m.Kind == kind && alike(m) }
	i := slices.IndexFunc(p.open, func(m api.Message) bool { return isOne(m) && m.To == from })
	if i < 0 {
		return false, false
	}
	p.open = slices.Delete(slices.Clone(p.open), i, i+1)
	p.stuck = 0
	return true, !slices.ContainsFunc(p.open, isOne)
}

func (p *plain) take(m api.Message) []api.Message {
	if m.To != p.node {
		return nil
	}
	if m.Kind == 1 && m.B == 1 {
		for _, r := range p.readers {
			if r == [2]int{m.From, m.A} {
				return nil
			}
		}
		p.readers[p.lives+1] = [2]int{m.From, m.A}
		return p.live()
	}
	if m.Epoch != p.state.Epoch {
		return nil
	}
	switch {
	case m.Kind == 1 && m.B == 2:
		return p.commit(m)
	case m.Kind == 19:
		return p.alive(m)
	case m.Kind == 4:
		return p.verdict(m)
	case m.Kind == 6:
		return p.pushed(m)
	}
	return nil
}

func (p *plain) live() []api.Message {
	p.lives++
	judged := p.version
	if p.going {
		judged = p.known
	}
	var out []api.Message
	for _, to := range append(slices.Clone(p.state.Chests), p.referees...) {
		out = append(out, p.message(18, to, p.lives, judged, 0, nil))
	}
	return p.sends(out...)
}

func (p *plain) alive(m api.Message) []api.Message {
	_, all := p.answered(18, m.From, func(x api.Message) bool { return x.A == m.A })
	r, told := p.readers[m.A]
	if !all || !told {
		return nil
	}
	delete(p.readers, m.A)
	return []api.Message{p.message(2, r[0], r[1], 0, p.known, nil)}
}

func (p *plain) commit(m api.Message) []api.Message {
	t, fine := p.fine[string(m.Body)]
	last, has := p.lasts[m.From]
	if !has || m.A > last {
		p.lasts[m.From] = m.A
	}
	if !fine {
		return []api.Message{p.message(2, m.From, m.A, 4, 0, nil)}
	}
	if has && m.A <= last {
		return nil
	}
	p.queue = append(p.queue, given{m.From, m.A, t})
	return p.begin()
}

func (p *plain) begin() []api.Message {
	if p.ticks == 0 || p.going || p.begun && !p.some && len(p.queue) == 0 {
		return nil
	}
	by := 10
	if p.version == p.state.Recovered {
		by = 1000
	}
	var out []api.Message
	if p.version > math.MaxInt-by || p.version+by > 1<<62-1<<20 {
		for _, g := range p.queue {
			out = append(out, p.message(2, g.guest, g.number, 5, 0, nil))
		}
		p.queue = nil
		return out
	}
	p.version += by
	n := min(4, len(p.queue))
	p.in, p.queue = p.queue[:n], p.queue[n:]
	p.going, p.begun, p.some, p.said = true, true, n > 0, map[int][]int{}
	for i, to := range p.referees {
		s := of("", top())
		if i > 0 {
			s.From = p.bounds[i-1]
		}
		if i < len(p.bounds) {
			s.To = p.bounds[i]
		}
		var body []byte
		for _, g := range p.in {
			body = append(body, textBytes(string(txnBytes(pieceOf(g.txn, s))))...)
		}
		out = append(out, p.message(3, to, p.known, p.version, n, body))
	}
	return p.sends(out...)
}

func (p *plain) verdict(m api.Message) []api.Message {
	// No verdict has more than one byte.
	if !p.going || len(m.Body) != len(p.in) || bytes.ContainsFunc(m.Body, func(r rune) bool { return r < 1 || r > 3 }) {
		return nil
	}
	was, all := p.answered(3, m.From, func(x api.Message) bool { return x.B == m.A })
	if was {
		for _, v := range m.Body {
			p.said[m.From] = append(p.said[m.From], int(v))
		}
	}
	if !all {
		return nil
	}
	x := api.Batch{Prev: p.known, Version: p.version, Known: p.known}
	p.verdicts = nil
	for i, g := range p.in {
		worst := 1
		for _, list := range p.said {
			worst = max(worst, list[i])
		}
		if p.verdicts = append(p.verdicts, worst); worst == 1 {
			x.Changes = append(x.Changes, g.txn.Changes...)
		}
	}
	var out []api.Message
	for _, to := range p.state.Chests {
		out = append(out, p.message(5, to, 0, 0, 0, batchBytes(x)))
	}
	return p.sends(out...)
}

func (p *plain) pushed(m api.Message) []api.Message {
	if m.A < p.version {
		return nil
	}
	if _, all := p.answered(5, m.From, func(api.Message) bool { return true }); !all {
		return nil
	}
	p.going, p.known = false, p.version
	var out []api.Message
	for i, g := range p.in {
		x := p.message(2, g.guest, g.number, p.verdicts[i], 0, nil) // Committed 1, Refused 2, TooOld 3: as Fine, Clash, Late
		if p.verdicts[i] == 1 {
			x.C = p.version
		}
		out = append(out, x)
	}
	return append(out, p.begin()...)
}

func (p *plain) tick() []api.Message {
	p.ticks++
	out := slices.Clone(p.open)
	if len(out) > 0 {
		p.stuck++
	}
	switch {
	case p.ticks == 1:
		return append(out, p.begin()...)
	case len(out) == 0:
		return p.live()
	}
	return out
}

// pair: a front, and one as the words say it.
type pair struct {
	t testing.TB
	f *Front
	p *plain
}

// newPair: new ones.
func newPair(t testing.TB, node int, s api.State, version int, referees []int, bounds []string) *pair {
	t.Helper()
	f, e := New(node, s, version, referees, bounds)
	if f == nil || e != api.OK {
		t.Fatalf("New(%d, %v, %d, %v, %q): %d", node, s, version, referees, bounds, e)
	}
	x := &pair{t, f, newPlain(node, s, version, referees, bounds)}
	x.same("New")
	return x
}

// usual: a front of node 60, of epoch 5, behind 7, which is what was recovered; with two chests, and as many referees as pieces.
func usual(t testing.TB, bounds ...string) *pair {
	t.Helper()
	referees := []int{80, 81, 82, 83, 84, 85, 86, 87}[:len(bounds)+1]
	return newPair(t, 60, api.State{Generation: 1, Epoch: 5, Recovered: 7, Chests: []int{20, 21}}, 7, referees, bounds)
}

// opened: a usual one whose first batch, at 1007, is committed.
func opened(t testing.TB, bounds ...string) *pair {
	t.Helper()
	x := usual(t, bounds...)
	x.tick()
	x.drain()
	return x
}

// texts: messages as what can be told of them; a body without bytes is like none.
func texts(list []api.Message) []string {
	var out []string
	for _, m := range list {
		out = append(out, fmt.Sprintf("%d %d>%d e%d %d %d %d %x", m.Kind, m.From, m.To, m.Epoch, m.A, m.B, m.C, m.Body))
	}
	return out
}

// is: are these the messages that have to be sent?
func (x *pair) is(what string, got, want []api.Message) {
	x.t.Helper()
	if !slices.Equal(texts(got), texts(want)) {
		x.t.Fatalf("%s: sent\n%s\nnot\n%s", what, strings.Join(texts(got), "\n"), strings.Join(texts(want), "\n"))
	}
	x.same(what)
}

// same: is what may be asked the same of both?
func (x *pair) same(what string) {
	x.t.Helper()
	for range 2 { // to ask changes nothing
		if v, k := x.f.Ends(); v != x.p.version || k != x.p.known {
			x.t.Fatalf("%s: Ends: %d, %d; not %d, %d", what, v, k, x.p.version, x.p.known)
		}
		if n := x.f.Stuck(); n != x.p.stuck {
			x.t.Fatalf("%s: Stuck: %d, not %d", what, n, x.p.stuck)
		}
	}
}

// take: both take a message.
func (x *pair) take(m api.Message) []api.Message {
	x.t.Helper()
	out := x.f.Take(m)
	x.is(fmt.Sprintf("Take(%s)", texts([]api.Message{m})[0]), out, x.p.take(m))
	return out
}

// tick: a moment goes by for both.
func (x *pair) tick() []api.Message {
	x.t.Helper()
	out := x.f.Tick()
	x.is("Tick", out, x.p.tick())
	return out
}

// passes: messages of which nothing comes, and that change nothing that is seen later.
func (x *pair) passes(list ...api.Message) {
	x.t.Helper()
	for _, m := range list {
		was := fmt.Sprintf("%+v", *x.p)
		if x.take(m); fmt.Sprintf("%+v", *x.p) != was {
			x.t.Fatalf("%+v changes\n%s\nto\n%+v", m, was, *x.p)
		}
	}
}

// sends: one call's messages, each as its kind and to whom.
func (x *pair) sends(got []api.Message, want ...[2]int) {
	x.t.Helper()
	var all [][2]int
	for _, m := range got {
		all = append(all, [2]int{m.Kind, m.To})
	}
	if !slices.Equal(all, want) {
		x.t.Fatalf("sent %v, not %v", all, want)
	}
}

// from: an answer, or what is asked, of the front's epoch.
func (x *pair) from(kind, from, a, b int, body []byte) api.Message {
	return api.Message{Kind: kind, From: from, To: x.p.node, Epoch: x.p.state.Epoch, A: a, B: b, Body: body}
}

func (x *pair) asksVersion(guest, number int) api.Message {
	return x.from(api.Ask, guest, number, 1, nil)
}

func (x *pair) asksCommit(guest, number int, t api.Txn) api.Message {
	return x.from(api.Ask, guest, number, 2, txnBytes(t))
}

func (x *pair) pushed(from, version int) api.Message {
	return x.from(api.Pushed, from, version, 0, nil)
}

func (x *pair) alive(from, number int) api.Message { return x.from(api.Alive, from, number, 0, nil) }

func (x *pair) verdict(from, version int, list ...int) api.Message {
	return x.from(api.Verdict, from, version, 0, numBytes(list...))
}

// answer: what a node answers that finds all fine.
func (x *pair) answer(m api.Message) api.Message {
	switch m.Kind {
	case api.Live:
		return x.alive(m.To, m.A)
	case api.Resolve:
		return x.verdict(m.To, m.B, slices.Repeat([]int{api.Fine}, m.C)...)
	}
	return x.pushed(m.To, x.p.version)
}

// drain: what was asked is answered, till there is nothing; all that was told in between.
func (x *pair) drain() []api.Message {
	x.t.Helper()
	var told []api.Message
	for len(x.p.open) > 0 {
		for _, m := range x.take(x.answer(x.p.open[0])) {
			if m.Kind == api.Tell {
				told = append(told, m)
			}
		}
	}
	return told
}

// tells: messages that are Told, each as the guest, its number, the outcome and the version.
func (x *pair) tells(got []api.Message, want ...[4]int) {
	x.t.Helper()
	var all [][4]int
	for _, m := range got {
		if m.Kind == api.Tell {
			all = append(all, [4]int{m.To, m.A, m.B, m.C})
		}
	}
	if !slices.Equal(all, want) {
		x.t.Fatalf("told %v, not %v", all, want)
	}
}

// step: a message that hangs on how a front stands; Kind 0 is a Tick.
type step func(x *pair) api.Message

// open: an answer to one of those that are not answered.
func open(turn int) step {
	return func(x *pair) api.Message {
		if len(x.p.open) == 0 {
			return api.Message{}
		}
		return x.answer(x.p.open[turn%len(x.p.open)])
	}
}

// judged: verdicts of one that was asked for them.
func judged(turn int, list ...int) step {
	return func(x *pair) api.Message {
		for i := range x.p.open {
			if m := x.p.open[(i+turn)%len(x.p.open)]; m.Kind == api.Resolve {
				return x.verdict(m.To, m.B, list[:min(m.C, len(list))]...)
			}
		}
		return x.verdict(80, x.p.version, list...)
	}
}

func asks(guest, number, what int, body []byte) step {
	return func(x *pair) api.Message { return x.from(api.Ask, guest, number, what, body) }
}

// next: a commit with a number so much above the last one of the guest.
func next(guest, by int, t api.Txn) step {
	return func(x *pair) api.Message { return x.asksCommit(guest, x.p.lasts[guest]+by, t) }
}

func tick(x *pair) api.Message { return api.Message{} }

// walk goes a way.
func (x *pair) walk(way []step) {
	x.t.Helper()
	for _, s := range way {
		if m := s(x); m.Kind == 0 {
			x.tick()
		} else {
			x.take(m)
		}
	}
}

// All ways of a few calls, from some beginnings on.
func TestShortWays(t *testing.T) {
	all := fineTxns()
	steps := []step{
		tick, open(0), open(1), open(2),
		judged(0, api.Clash, api.Late, api.Fine, api.Clash), judged(1, api.Late, api.Fine), judged(0, 0, 4), judged(0, 1, 2, 3, 1, 2),
		asks(100, 1, 1, nil), asks(101, 1, 1, nil),
		next(100, 1, all[3]), next(101, 2, all[6]), next(100, 0, all[7]), next(101, 1, api.Txn{Read: -1}),
		func(x *pair) api.Message { return x.pushed(20, x.p.version+5) },
		func(x *pair) api.Message { return x.pushed(21, x.p.version-1) },
		func(x *pair) api.Message { return x.alive(20, x.p.lives) },
		func(x *pair) api.Message { m := x.asksCommit(100, 99, all[3]); m.Epoch++; return m },
	}
	begins := []func() *pair{
		func() *pair { return usual(t) },
		func() *pair { return opened(t, "h") },
		func() *pair {
			x := opened(t, "h")
			x.walk([]step{next(100, 1, all[3]), next(100, 1, all[4]), asks(102, 5, 1, nil), next(101, 1, all[5])})
			return x
		},
		func() *pair {
			x := newPair(t, 60, api.State{Epoch: 5, Chests: []int{20, 21}}, api.Last-15, []int{80}, nil)
			x.walk([]step{next(100, 1, all[3]), tick, next(101, 1, all[5])})
			return x
		},
	}
	for _, begin := range begins {
		var further func(way []step, more int)
		further = func(way []step, more int) {
			if more == 0 {
				begin().walk(way)
				return
			}
			for _, s := range steps {
				further(append(way[:len(way):len(way)], s), more-1)
			}
		}
		for more := range 4 {
			further(nil, more)
		}
	}
}

// strange: a message that is like one that may come, but for some numbers.
func strange(pick *rand.Rand) step {
	return func(x *pair) api.Message {
		nodes := []int{-1, 0, 20, 21, 60, 80, 81, 82, 100, 101, 255, 300}
		numbers := []int{least, -1, 0, 1, 2, x.p.lives, x.p.lives - 1, x.p.lives + 1, x.p.known, x.p.version, x.p.version + 1, x.p.version - 1, most}
		m := api.Message{Kind: pick.IntN(23) - 1, From: nodes[pick.IntN(len(nodes))], To: x.p.node, Epoch: x.p.state.Epoch}
		if m.Kind <= 0 {
			m.Kind = []int{-1, 21, least, most}[pick.IntN(4)]
		}
		if pick.IntN(5) == 0 {
			m.To = nodes[pick.IntN(len(nodes))]
		}
		if pick.IntN(5) == 0 {
			m.Epoch = []int{least, 0, 4, 6, most}[pick.IntN(5)]
		}
		m.A, m.B, m.C = numbers[pick.IntN(len(numbers))], pick.IntN(6)-1, pick.IntN(3)-1
		if m.Kind == api.Ask && m.A >= 1000 {
			m.A %= 1000 // else no commit of that guest comes any more
		}
		m.Body = []([]byte){nil, {1}, {1, 1}, {3, 2, 1}, {0}, {4, 1}, {0x81, 0}, txnBytes(fineTxns()[pick.IntN(20)])}[pick.IntN(8)]
		return m
	}
}

// Some ways of many calls, the same ones each time.
func TestLongWays(t *testing.T) {
	pick := rand.New(rand.NewPCG(19, 1))
	all := fineTxns()
	for i := range 600 {
		bounds := [][]string{nil, {"h"}, {"g", "m"}}[i%3]
		s := api.State{Generation: 3, Epoch: 5, Recovered: []int{7, 40, 0}[pick.IntN(3)], Chests: []int{20, 21, 22}[:1+pick.IntN(3)]}
		version := []int{0, 7, 30, 40, api.Last - 1 - pick.IntN(1200)}[pick.IntN(5)]
		x := newPair(t, 60, s, version, []int{80, 81, 82}[:len(bounds)+1], bounds)
		var verdicts []int
		for range 6 {
			verdicts = append(verdicts, 1+pick.IntN(3))
		}
		for range 150 {
			guest := 100 + pick.IntN(4)
			steps := []step{tick, strange(pick), asks(guest, pick.IntN(4), 1, nil), next(guest, pick.IntN(3), all[pick.IntN(len(all))]), judged(pick.IntN(3), verdicts...)}
			turn := pick.IntN(12)
			if turn >= len(steps) {
				x.walk([]step{open(pick.IntN(20))})
				continue
			}
			x.walk(steps[turn : turn+1])
		}
	}
}

// encoded: may each message be sent?
func encoded(t testing.TB, list []api.Message) {
	t.Helper()
	for _, m := range list {
		if _, e := frame.Encode(m); e != api.OK {
			t.Fatalf("%+v can't be sent: %d", m, e)
		}
	}
}
