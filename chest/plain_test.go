package chest

import (
	"encoding/binary"
	"fmt"
	"hash/crc32"
	"math"
	"math/rand/v2"
	"slices"
	"testing"

	"roundhouse/api"
	"roundhouse/frame"
	"roundhouse/tape"
)

const (
	least = math.MinInt
	most  = math.MaxInt
)

// b: a batch without changes; known: what it knows is its Prev.
func b(prev, version int) api.Batch { return api.Batch{Prev: prev, Version: version, Known: prev} }

// row: batches behind a version, one behind the other.
func row(prev int, versions ...int) []api.Batch {
	var out []api.Batch
	for _, v := range versions {
		out = append(out, b(prev, v))
		prev = v
	}
	return out
}

// rowOf: so many of them, each one above.
func rowOf(prev, many int) []api.Batch {
	var out []api.Batch
	for i := range many {
		out = append(out, b(prev+i, prev+i+1))
	}
	return out
}

// sized: a batch whose bytes are so many, at least as many as one without changes has.
func sized(t testing.TB, prev, version, known, size int) api.Batch {
	t.Helper()
	x := api.Batch{Prev: prev, Version: version, Known: known}
	text, _ := frame.PutBatch(x)
	for left := size - len(text); left > 0; {
		n := min(left, 68)
		if rest := left - n; rest > 0 && rest < 4 {
			n -= 4
		}
		x.Changes = append(x.Changes, api.Change{Kind: api.Put, Key: "k", Value: string(make([]byte, n-4))})
		left -= n
	}
	if text, e := frame.PutBatch(x); e != api.OK || len(text) != size {
		t.Fatalf("no batch of %d bytes, but one of %d, %d", size, len(text), e)
	}
	return x
}

// unsound: a batch that is not, at its place in a row.
func unsound(prev, version int) api.Batch {
	return api.Batch{Prev: prev, Version: version, Known: -1}
}

// plainLog: all that a log ever had, and how many of the first ones were popped.
type plainLog struct {
	base, gone int
	laid, all  []api.Batch
}

func (l *plainLog) stands() int {
	if l.gone == 0 {
		return l.base
	}
	return l.all[l.gone-1].Version
}

func (l *plainLog) top() int {
	if len(l.all) == 0 {
		return l.base
	}
	return l.all[len(l.all)-1].Version
}

func (l *plainLog) known() int {
	out := 0
	for _, x := range l.all {
		out = max(out, x.Known)
	}
	return out
}

func (l *plainLog) held() []api.Batch { return l.all[l.gone:] }

// plain: a chest as the words say it, with a tape that has room for all, and does not go down.
type plain struct {
	lock int
	logs map[int]*plainLog
}

func newPlain() *plain { return &plain{logs: map[int]*plainLog{}} }

// copied: the same chest once more.
func (p *plain) copied() *plain {
	out := &plain{lock: p.lock, logs: map[int]*plainLog{}}
	for n, l := range p.logs {
		x := *l
		x.all = slices.Clone(l.all)
		out.logs[n] = &x
	}
	return out
}

// isRow: are they batches of a log with that base?
func isRow(base int, list []api.Batch) bool {
	for _, x := range list {
		if x.Prev != base || x.Version <= base {
			return false
		}
		base = x.Version
	}
	return true
}

func plainCheck(x api.Batch) api.Errno {
	text, e := frame.PutBatch(x)
	if e != api.OK {
		return api.ErrForm
	}
	if len(text) > 2400 {
		return api.ErrLarge
	}
	return api.OK
}

// sameBatches: are they, with lists that are nil and empty alike?
func sameBatches(a, b []api.Batch) bool {
	return slices.EqualFunc(a, b, func(x, y api.Batch) bool {
		return x.Prev == y.Prev && x.Version == y.Version && x.Known == y.Known && slices.Equal(x.Changes, y.Changes)
	})
}

func (p *plain) lay(epoch, base int, list []api.Batch) api.Errno {
	switch {
	case epoch < 1 || base < 0:
		return api.ErrArg
	case epoch < p.lock:
		return api.ErrLocked
	case len(list) > 24:
		return api.ErrFull
	}
	for _, x := range list {
		if e := plainCheck(x); e != api.OK {
			return e
		}
	}
	if !isRow(base, list) {
		return api.ErrForm
	}
	if l := p.logs[epoch]; l != nil {
		if l.base != base || !sameBatches(l.laid, list) {
			return api.ErrClash
		}
		return api.OK
	}
	p.logs[epoch] = &plainLog{base: base, laid: list, all: slices.Clone(list)}
	return api.OK
}

func (p *plain) push(epoch int, x api.Batch) (int, api.Errno) {
	l := p.logs[epoch]
	switch {
	case epoch < 1:
		return 0, api.ErrArg
	case l == nil:
		return 0, api.ErrNone
	case epoch < p.lock:
		return 0, api.ErrLocked
	case plainCheck(x) != api.OK:
		return 0, plainCheck(x)
	case x.Version <= l.top():
		return l.top(), api.OK
	case x.Prev != l.top():
		return 0, api.ErrOrder
	case len(l.held()) >= 24:
		return 0, api.ErrFull
	}
	l.all = append(l.all, x)
	return x.Version, api.OK
}

func (p *plain) lockAt(epoch, of int) (base, known int, list []api.Batch, e api.Errno) {
	switch {
	case epoch < 1 || of < 0:
		return 0, 0, nil, api.ErrArg
	case epoch < p.lock:
		return 0, 0, nil, api.ErrLocked
	}
	p.lock = epoch
	l := p.logs[of]
	if l == nil {
		return 0, 0, nil, api.ErrNone
	}
	return l.stands(), l.known(), l.held(), api.OK
}

func (p *plain) live(epoch int) api.Errno {
	switch {
	case epoch < 1:
		return api.ErrArg
	case p.logs[epoch] == nil:
		return api.ErrNone
	case epoch < p.lock:
		return api.ErrLocked
	}
	return api.OK
}

func (p *plain) peek(epoch, version, most int) (list []api.Batch, known int, e api.Errno) {
	l := p.logs[epoch]
	switch {
	case epoch < 1 || version < 0 || most < 0:
		return nil, 0, api.ErrArg
	case l == nil:
		return nil, 0, api.ErrNone
	case version < l.stands():
		return nil, 0, api.ErrOld
	}
	for _, x := range l.held() {
		if x.Version > version && len(list) < most {
			list = append(list, x)
		}
	}
	return list, l.known(), api.OK
}

func (p *plain) pop(epoch, version int) api.Errno {
	l := p.logs[epoch]
	switch {
	case epoch < 1 || version < 0:
		return api.ErrArg
	case l == nil:
		return api.ErrNone
	case version > l.top():
		return api.ErrNew
	}
	for l.gone < len(l.all) && l.all[l.gone].Version <= version {
		l.gone++
	}
	return api.OK
}

func (p *plain) retire(epoch int) api.Errno {
	if epoch < 1 {
		return api.ErrArg
	}
	for n := range p.logs {
		if n < epoch {
			delete(p.logs, n)
		}
	}
	return api.OK
}

func (p *plain) epochs() []int {
	var out []int
	for n := range p.logs {
		out = append(out, n)
	}
	slices.Sort(out)
	return out
}

// told: batches as a text; nil and empty lists are told alike.
func told(list []api.Batch) string { return fmt.Sprintf("%v", list) }

// view: all that a chest keeps, as a text.
func (p *plain) view() string {
	out := fmt.Sprint("lock ", p.lock)
	for _, n := range p.epochs() {
		l := p.logs[n]
		out += fmt.Sprintf("; %d: laid %d %s; %d, known %d, %s", n, l.base, told(l.laid), l.stands(), l.known(), told(l.held()))
	}
	return out
}

func viewOf(c *Chest) string {
	out := fmt.Sprint("lock ", c.lock)
	for _, n := range c.Epochs() {
		l := c.logs[n]
		out += fmt.Sprintf("; %d: laid %d %s; %d, known %d, %s", n, l.first.base, told(l.first.list), l.base, l.known, told(l.list))
	}
	return out
}

// call: one of a chest, with what it is called with.
type call struct {
	name    string
	a, b, c int
	list    []api.Batch
}

func lay(epoch, base int, list ...api.Batch) call {
	return call{name: "Lay", a: epoch, b: base, list: list}
}

func push(epoch int, x api.Batch) call {
	return call{name: "Push", a: epoch, list: []api.Batch{x}}
}

func lockAt(epoch, of int) call   { return call{name: "Lock", a: epoch, b: of} }
func live(epoch int) call         { return call{name: "Live", a: epoch} }
func pop(epoch, version int) call { return call{name: "Pop", a: epoch, b: version} }
func retire(epoch int) call       { return call{name: "Retire", a: epoch} }

func peek(epoch, version, most int) call {
	return call{name: "Peek", a: epoch, b: version, c: most}
}

// answer: what a call answers.
type answer struct {
	a, b int
	list []api.Batch
	e    api.Errno
}

func (a answer) text() string { return fmt.Sprintf("%d, %d, %s, %d", a.a, a.b, told(a.list), a.e) }

func (x call) String() string {
	return fmt.Sprintf("%s %d, %d, %d, %s", x.name, x.a, x.b, x.c, told(x.list))
}

// of does a call.
func (x call) of(c *Chest) (y answer) {
	switch x.name {
	case "Lay":
		y.e = c.Lay(x.a, x.b, x.list...)
	case "Push":
		y.a, y.e = c.Push(x.a, x.list[0])
	case "Lock":
		y.a, y.b, y.list, y.e = c.Lock(x.a, x.b)
	case "Live":
		y.e = c.Live(x.a)
	case "Peek":
		y.list, y.b, y.e = c.Peek(x.a, x.b, x.c)
	case "Pop":
		y.e = c.Pop(x.a, x.b)
	case "Retire":
		y.e = c.Retire(x.a)
	}
	return y
}

// ofPlain does it to a plain one.
func (x call) ofPlain(p *plain) (y answer) {
	switch x.name {
	case "Lay":
		y.e = p.lay(x.a, x.b, x.list)
	case "Push":
		y.a, y.e = p.push(x.a, x.list[0])
	case "Lock":
		y.a, y.b, y.list, y.e = p.lockAt(x.a, x.b)
	case "Live":
		y.e = p.live(x.a)
	case "Peek":
		y.list, y.b, y.e = p.peek(x.a, x.b, x.c)
	case "Pop":
		y.e = p.pop(x.a, x.b)
	case "Retire":
		y.e = p.retire(x.a)
	}
	return y
}

// laidBytes: records as they stand on a tape, made in another way than the program's.
func laidBytes(list ...[]byte) []byte {
	var out []byte
	for _, s := range list {
		out = binary.AppendUvarint(out, uint64(len(s)+4))
		out = binary.LittleEndian.AppendUint32(out, crc32.Checksum(s, crc32.MakeTable(crc32.Castagnoli)))
		out = append(out, s...)
	}
	return out
}

// recordBytes: a record, made likewise: numbers as a text, and each batch's bytes as one.
func recordBytes(nums []int, list ...api.Batch) []byte {
	var head []byte
	for _, n := range nums {
		head = binary.AppendUvarint(head, uint64(n))
	}
	out := binary.AppendUvarint(nil, uint64(len(head)))
	out = append(out, head...)
	for _, x := range list {
		text, _ := frame.PutBatch(x)
		out = binary.AppendUvarint(out, uint64(len(text)))
		out = append(out, text...)
	}
	return out
}

// tapeOf: one with so much room, on which these bytes stand and last.
func tapeOf(t testing.TB, room int, text []byte) *tape.Tape {
	t.Helper()
	p, e := tape.New(room)
	if e != api.OK || p.Replace(text) != api.OK {
		t.Fatalf("no tape of %d bytes in room for %d", len(text), room)
	}
	return p
}

// open: the chest on a tape.
func open(t testing.TB, p *tape.Tape) *Chest {
	t.Helper()
	c, e := Open(p)
	if c == nil || e != api.OK {
		t.Fatalf("Open: %v, %d", c, e)
	}
	return c
}

// records: how many records tell what it keeps, and nothing of what is gone.
func (p *plain) records() int {
	out := min(p.lock, 1)
	for _, l := range p.logs {
		out += 1 + min(l.gone, 1) + len(l.all[max(l.gone, len(l.laid)):])
	}
	return out
}

// pair: a chest on a tape, and one as the words say it.
type pair struct {
	t testing.TB
	c *Chest
	p *tape.Tape
	q *plain
}

// newPair: an empty one, with all room that may be, behind some calls.
func newPair(t testing.TB, list ...call) *pair {
	t.Helper()
	p := tapeOf(t, api.MaxTape, nil)
	x := &pair{t: t, c: open(t, p), p: p, q: newPlain()}
	x.do(list...)
	return x
}

// do: calls of both: are the answers the same, and what is kept?
func (x *pair) do(list ...call) {
	x.t.Helper()
	for _, one := range list {
		was := x.q.view()
		want, got := one.ofPlain(x.q).text(), one.of(x.c).text()
		if got != want {
			x.t.Fatalf("%s: %s; not %s; it was %s", one, got, want, was)
		}
		x.same(one.String())
	}
}

// gives: one call of both, and what it has to answer.
func (x *pair) gives(one call, want answer) {
	x.t.Helper()
	was := x.q.view()
	plain, got := one.ofPlain(x.q).text(), one.of(x.c).text()
	if got != want.text() || plain != want.text() {
		x.t.Errorf("%s: %s, plainly %s; not %s; it was %s", one, got, plain, want.text(), was)
	}
	x.same(one.String())
}

// refuses: calls that answer this error, and change nothing.
func (x *pair) refuses(e api.Errno, list ...call) {
	x.t.Helper()
	was := x.q.view()
	for _, one := range list {
		x.gives(one, answer{e: e})
	}
	if now := x.q.view(); now != was {
		x.t.Errorf("changed to %s; it was %s", now, was)
	}
}

// same: is what the chest keeps what the words say, in memory, and on the tape, for whoever opens it anew?
func (x *pair) same(what string) {
	x.t.Helper()
	want := x.q.view()
	if got := viewOf(x.c); got != want {
		x.t.Fatalf("%s: it keeps %s; not %s", what, got, want)
	}
	text, e := x.p.Bytes()
	if e != api.OK || x.p.Loose() != 0 {
		x.t.Fatalf("%s: the tape: %d, %d loose", what, e, x.p.Loose())
	}
	p := tapeOf(x.t, len(text), text)
	p.Fail(0) // nothing is written by Open
	c, e := Open(p)
	if e != api.OK {
		x.t.Fatalf("%s: Open: %d, of %q", what, e, text)
	}
	if got := viewOf(c); got != want {
		x.t.Fatalf("%s: anew it keeps %s; not %s", what, got, want)
	}
	if got := len(c.Records()); got != x.q.records() {
		x.t.Fatalf("%s: %d records, not %d, of %s", what, got, x.q.records(), want)
	}
}

// anew: the tape crashes, and has the chest opened.
func (x *pair) anew() {
	x.t.Helper()
	x.p.Crash(0, 1)
	x.c = open(x.t, x.p)
	x.same("anew")
}

// picked: one of a list.
func picked[T any](pick *rand.Rand, list ...T) T { return list[pick.IntN(len(list))] }

// calls: some of each kind, of these epochs and versions.
func calls(epochs, versions []int) []call {
	var out []call
	for _, epoch := range epochs {
		out = append(out, live(epoch), retire(epoch), lockAt(epoch, epochs[0]), lockAt(epoch, epoch))
		for i, v := range versions {
			out = append(out, lay(epoch, v), pop(epoch, v), peek(epoch, v, most), peek(epoch, v, 1))
			for j, w := range versions {
				out = append(out, push(epoch, api.Batch{Prev: v, Version: w, Known: i * j % 7}), lay(epoch, v, b(v, w)))
			}
			out = append(out, lay(epoch, v, row(v, versions...)...))
		}
	}
	return out
}

// All ways of a few calls.
func TestShortWays(t *testing.T) {
	all := []call{
		lay(1, 5), lay(1, 5, b(5, 7)), lay(2, 5, row(5, 7, 9)...), push(1, b(5, 7)), push(1, b(7, 9)), push(2, api.Batch{Prev: 9, Version: 12, Known: 11}),
		pop(1, 7), pop(2, 8), pop(2, 12), lockAt(1, 2), lockAt(2, 1), retire(2), peek(1, 5, 1), live(1),
	}
	var further func(way []call, more int)
	further = func(way []call, more int) {
		x := newPair(t)
		for i, one := range way {
			if i < len(way)-1 { // it was asked about when it was the last one
				one.of(x.c)
				one.ofPlain(x.q)
			} else {
				x.do(one)
			}
		}
		if more == 0 {
			return
		}
		for _, one := range all {
			further(append(way[:len(way):len(way)], one), more-1)
		}
	}
	further(nil, 4)
}

// Some ways of many calls, the same ones each time.
func TestLongWays(t *testing.T) {
	pick := rand.New(rand.NewPCG(16, 1))
	all := calls([]int{1, 2, 3, 0, -1}, []int{0, 1, 2, 5, 6, -1})
	for range 150 {
		x := newPair(t)
		for range 80 {
			if pick.IntN(30) == 0 {
				x.anew()
			}
			x.do(picked(pick, all...))
		}
	}
}

// fits: a call that goes on with what there is, more often than not.
func (p *plain) fits(t testing.TB, pick *rand.Rand) call {
	epoch := 1 + pick.IntN(4)
	l := p.logs[epoch]
	if l == nil {
		prev := pick.IntN(50)
		return lay(epoch, prev, rowOf(prev, pick.IntN(4))...)
	}
	v := l.stands() + pick.IntN(l.top()-l.stands()+2)
	switch pick.IntN(12) {
	case 0:
		return pop(epoch, v)
	case 1:
		return peek(epoch, v, pick.IntN(5))
	case 2:
		return lockAt(p.lock+pick.IntN(2), epoch)
	case 3:
		return retire(1 + pick.IntN(4))
	case 4:
		return live(epoch)
	case 5:
		return lay(epoch, l.base, l.laid...)
	}
	return push(epoch, sized(t, l.top(), l.top()+1+pick.IntN(9), pick.IntN(1+l.top()), 20+pick.IntN(200)))
}

func TestFittingWays(t *testing.T) {
	pick := rand.New(rand.NewPCG(16, 2))
	for range 60 {
		x := newPair(t)
		for range 150 {
			if pick.IntN(30) == 0 {
				x.anew()
			}
			x.do(x.q.fits(t, pick))
		}
	}
}
