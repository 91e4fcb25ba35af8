package council

import (
	"encoding/binary"
	"fmt"
	"hash/crc32"
	"math"
	"math/rand/v2"
	"slices"
	"strings"
	"testing"

	"roundhouse/api"
	"roundhouse/tape"
)

const (
	least = math.MinInt
	most  = math.MaxInt
)

func at(number, node int) api.Ballot { return api.Ballot{Number: number, Node: node} }

func state(generation, epoch, recovered int, chests ...int) api.State {
	return api.State{Generation: generation, Epoch: epoch, Recovered: recovered, Chests: chests}
}

func vow(promised, at api.Ballot, taken api.State) api.Vow {
	return api.Vow{Promised: promised, At: at, Taken: taken}
}

func sameState(a, b api.State) bool {
	return a.Generation == b.Generation && a.Epoch == b.Epoch && a.Recovered == b.Recovered && slices.Equal(a.Chests, b.Chests)
}

func same(a, b api.Vow) bool {
	return a.Promised == b.Promised && a.At == b.At && sameState(a.Taken, b.Taken)
}

func none(v api.Vow) bool { return same(v, api.Vow{}) }

// below: is one ballot below another, held against each other as lists?
func below(a, b api.Ballot) bool {
	return slices.Compare([]int{a.Number, a.Node}, []int{b.Number, b.Node}) < 0
}

// vowBytes: a vow's bytes, made in another way than the program's: the library's numbers are the same.
func vowBytes(v api.Vow) string {
	s := v.Taken
	var out []byte
	for _, n := range append([]int{v.Promised.Number, v.Promised.Node, v.At.Number, v.At.Node, s.Generation, s.Epoch, s.Recovered, len(s.Chests)}, s.Chests...) {
		out = binary.AppendUvarint(out, uint64(n))
	}
	return string(out)
}

// laid: records as they stand on a tape, made likewise.
func laid(list ...string) string {
	var out []byte
	for _, s := range list {
		out = binary.AppendUvarint(out, uint64(len(s)+4))
		out = binary.LittleEndian.AppendUint32(out, crc32.Checksum([]byte(s), crc32.MakeTable(crc32.Castagnoli)))
		out = append(out, s...)
	}
	return string(out)
}

// laidVow: a vow alone, as it stands on a tape.
func laidVow(v api.Vow) string { return laid(vowBytes(v)) }

// tapeOf: one with so much room, on which these bytes stand and last.
func tapeOf(t *testing.T, room int, text string) *tape.Tape {
	t.Helper()
	p, e := tape.New(room)
	if e != api.OK || p.Replace([]byte(text)) != api.OK {
		t.Fatalf("no tape of %d bytes in room for %d", len(text), room)
	}
	return p
}

// open: the council on a tape.
func open(t *testing.T, p *tape.Tape) *Council {
	t.Helper()
	c, e := Open(p)
	if c == nil || e != api.OK {
		t.Fatalf("Open: %v, %d", c, e)
	}
	return c
}

// councilOf: one with room enough that keeps a vow, and its tape.
func councilOf(t *testing.T, v api.Vow) (*Council, *tape.Tape) {
	t.Helper()
	p := tapeOf(t, 1000, laidVow(v))
	return open(t, p), p
}

// stands: is this what stands on the tape, and lasts?
func stands(t *testing.T, what string, p *tape.Tape, want string) {
	t.Helper()
	if got, e := p.Bytes(); string(got) != want || e != api.OK || p.Loose() != 0 {
		t.Errorf("%s: the tape has %q, %d, %d loose; not %q", what, got, e, p.Loose(), want)
	}
}

// has: is this its vow?
func has(t *testing.T, what string, c *Council, want api.Vow) {
	t.Helper()
	if got := c.Vow(); !same(got, want) {
		t.Errorf("%s: %+v, not %+v", what, got, want)
	}
}

// is: is this its vow, and does that stand alone on its tape?
func is(t *testing.T, what string, c *Council, p *tape.Tape, want api.Vow) {
	t.Helper()
	has(t, what, c, want)
	stands(t, what, p, laidVow(want))
}

// prepares: what Prepare answers, and has to.
func prepares(t *testing.T, what string, c *Council, b api.Ballot, want api.Vow, given bool, e api.Errno) {
	t.Helper()
	if v, g, f := c.Prepare(b); !same(v, want) || g != given || f != e {
		t.Errorf("%s: Prepare(%v): %+v, %v, %d; not %+v, %v, %d", what, b, v, g, f, want, given, e)
	}
}

// accepts: what Accept answers, and has to.
func accepts(t *testing.T, what string, c *Council, b api.Ballot, s api.State, taken bool, e api.Errno) {
	t.Helper()
	if g, f := c.Accept(b, s); g != taken || f != e {
		t.Errorf("%s: Accept(%v, %+v): %v, %d; not %v, %d", what, b, s, g, f, taken, e)
	}
}

// promised: a vow with another ballot promised.
func promised(v api.Vow, b api.Ballot) api.Vow {
	v.Promised = b
	return v
}

// ballots: all of some numbers and nodes that may be, rising; badBallots: some that may not.
func ballots() []api.Ballot {
	var out []api.Ballot
	ends := []int{0, 1, 2, 127, 128, 255, 256, 1 << 32, most - 1, most}
	for _, number := range ends {
		for _, node := range ends {
			out = append(out, at(number, node))
		}
	}
	return out
}

func badBallots() []api.Ballot {
	var out []api.Ballot
	for _, wrong := range []int{-1, -2, -256, least, least + 1} {
		for _, other := range []int{0, 1, 5, most, -1, least} {
			out = append(out, at(wrong, other), at(other, wrong))
		}
	}
	return out
}

// soundStates, badStates: those that are sound, and some that are not.
func soundStates() []api.State {
	return []api.State{
		{}, state(0, 0, 0, 0), state(1, 0, 0), state(0, 1, 0), state(0, 0, 1), state(1, 2, 3, 20, 21, 22), state(127, 128, 129, 255), state(16383, 16384, 16385, 127, 128),
		state(most, most, most, 255, 255), state(5, 5, 5, slices.Repeat([]int{255}, 16)...), state(5, 5, 5, slices.Repeat([]int{0}, 16)...), state(9, 8, 7, 22, 20, 20, 21),
	}
}

func badStates() []api.State {
	out := []api.State{
		state(-1, 0, 0), state(0, -1, 0), state(0, 0, -1), state(least, 1, 1), state(1, least, 1), state(1, 1, least), state(-1, -1, -1, -1),
		state(1, 1, 1, slices.Repeat([]int{20}, 17)...), state(1, 1, 1, make([]int, 1000)...),
	}
	for _, wrong := range []int{-1, 256, least, most, 1 << 32} {
		out = append(out, state(1, 2, 3, wrong), state(1, 2, 3, wrong, 20, 21), state(1, 2, 3, 20, wrong, 21), state(1, 2, 3, append(slices.Repeat([]int{20}, 15), wrong)...))
	}
	return out
}

// vows: some that are sound.
func vows() []api.Vow {
	out := []api.Vow{{}, vow(at(most, most), at(most, most), state(most, most, most, slices.Repeat([]int{255}, 16)...))}
	for _, s := range soundStates() {
		out = append(out, vow(at(3, 7), at(3, 7), s), vow(at(3, 7), at(2, 300), s), vow(at(300, 2), at(0, 1), s), vow(at(1, 0), at(0, 0), s), vow(at(0, 0), at(0, 0), s))
	}
	return out
}

// noVows: records that are no vow, by what is wrong with them.
func noVows() map[string]string {
	whole := vowBytes(vow(at(3, 7), at(2, 300), state(1, 2, 3, 20, 200)))
	out := map[string]string{
		"nothing":                     "",
		"words":                       "no vow",
		"zeros":                       strings.Repeat("\x00", 9),
		"ones":                        strings.Repeat("\xff", 40),
		"At above by Number":          vowBytes(vow(at(3, 7), at(4, 0), state(1, 2, 3))),
		"At above by Node":            vowBytes(vow(at(3, 7), at(3, 8), state(1, 2, 3))),
		"a chest above 255":           vowBytes(vow(at(3, 7), at(3, 7), state(1, 2, 3, 20, 256, 21))),
		"too many chests":             vowBytes(vow(at(3, 7), at(3, 7), state(1, 2, 3, make([]int, 17)...))),
		"a number of more bytes":      "\x83\x00" + whole[1:],
		"a number that is too great":  strings.Repeat("\xff", 9) + "\x01" + whole[1:],
		"gone on with":                whole + "\x00",
		"one behind the other":        whole + whole,
		"a record in it":              laid(whole),
		"a vow without its Chests":    vowBytes(vow(at(3, 7), at(3, 7), state(1, 2, 3)))[:7] + "\x01",
		"a ballot of a number missed": whole[1:],
	}
	for cut := 1; cut < len(whole); cut++ {
		out[fmt.Sprint("cut off at ", cut)] = whole[:cut]
	}
	return out
}

// P15.1

func TestOpenNil(t *testing.T) {
	for range 2 {
		if c, e := Open(nil); c != nil || e != api.ErrArg {
			t.Errorf("Open(nil): %v, %d", c, e)
		}
	}
}

func TestOpenEmpty(t *testing.T) {
	for _, room := range []int{0, 1, 13, 100, api.MaxTape} {
		p, _ := tape.New(room)
		p.Fail(0) // nothing is written, so it does not go down
		has(t, fmt.Sprint("room ", room), open(t, p), api.Vow{})
		stands(t, fmt.Sprint("room ", room), p, "")
	}
}

func TestOpenDown(t *testing.T) {
	v := vow(at(3, 7), at(2, 300), state(1, 2, 3, 20))
	for _, text := range []string{"", laidVow(v), laidVow(v) + "x", laid("no vow"), laid("no vow") + "x"} {
		p := tapeOf(t, 100, text)
		p.Fail(0)
		if e := p.Sync(); e != api.ErrDown {
			t.Fatalf("Sync: %d", e)
		}
		for range 2 {
			if c, e := Open(p); c != nil || e != api.ErrDown {
				t.Errorf("%q: Open: %v, %d", text, c, e)
			}
		}
		p.Crash(0, 1)
		stands(t, "behind Open that was not done", p, text)
	}
}

// The last record is the vow, whatever stands ahead of it, and nothing is written.
func TestOpen(t *testing.T) {
	elder := vowBytes(vow(at(9, 9), at(9, 9), state(9, 9, 9, 99)))
	for _, v := range vows() {
		for _, ahead := range [][]string{{}, {elder}, {""}, {"no vow"}, {"no vow", elder}, {elder, "", elder, "no vow"}, {vowBytes(v)}} {
			text := laid(append(slices.Clone(ahead), vowBytes(v))...)
			p := tapeOf(t, len(text), text)
			p.Fail(0)
			for range 2 {
				what := fmt.Sprintf("%q ahead of %+v", ahead, v)
				c := open(t, p)
				has(t, what, c, v)
				stands(t, what, p, text)
			}
		}
	}
}

// A last record that is no vow: nothing is kept, and the tape is as it was.
func TestOpenNoVow(t *testing.T) {
	elder := vowBytes(vow(at(1, 1), at(1, 1), state(1, 1, 1, 20)))
	for what, record := range noVows() {
		for _, ahead := range [][]string{{}, {elder}, {"", elder}, {elder, record}} {
			text := laid(append(slices.Clone(ahead), record)...)
			p := tapeOf(t, 1000, text)
			p.Fail(0)
			for range 2 {
				if c, e := Open(p); c != nil || e != api.ErrForm {
					t.Errorf("%s: Open: %v, %d", what, c, e)
				}
				stands(t, what, p, text)
			}
		}
	}
}

// lefts: bytes that are no record, behind the last one.
func lefts() []string {
	whole := laidVow(vow(at(8, 8), at(8, 8), state(8, 8, 8, 88)))
	turned := []byte(whole)
	turned[len(turned)-1] ^= 1
	return []string{"x", "\x00", whole[:1], whole[:5], whole[:len(whole)-1], string(turned), string(turned) + whole, laid("cut off")[:7]}
}

// Bytes behind the last record are taken away: by one Replace, which finds room in the fullest tape.
func TestOpenLeft(t *testing.T) {
	for _, left := range lefts() {
		for _, v := range []api.Vow{{}, vow(at(3, 7), at(2, 300), state(1, 2, 3, 20, 200))} {
			for _, ahead := range [][]string{{}, {"no vow"}, {vowBytes(v), ""}} {
				text := laid(append(slices.Clone(ahead), vowBytes(v))...)
				what := fmt.Sprintf("%q, %+v, %q", ahead, v, left)
				p := tapeOf(t, len(text+left), text+left)
				p.Fail(1)
				c := open(t, p)
				has(t, what, c, v)
				stands(t, what, p, text)
				prepares(t, what+": a second write", c, at(9, 9), api.Vow{}, false, api.ErrDown)
				p.Crash(0, 1)
				has(t, what+", crashed", open(t, p), v)
			}
		}
		p := tapeOf(t, 100, left)
		has(t, "no record", open(t, p), api.Vow{})
		stands(t, "no record", p, "")
	}
}

// What the book says to bytes that are left goes ahead of a last record that is no vow.
func TestOpenLeftNoVow(t *testing.T) {
	for _, record := range []string{"", "no vow", vowBytes(api.Vow{})} {
		for _, left := range lefts() {
			text := laid(record)
			p := tapeOf(t, 100, text+left)
			p.Fail(0)
			for range 2 {
				if c, e := Open(p); c != nil || e != api.ErrDown {
					t.Errorf("%q, %q: Open: %v, %d", record, left, c, e)
				}
			}
			p.Crash(0, 1)
			stands(t, "behind Open that was not done", p, text+left)
			want := api.ErrForm
			if record == vowBytes(api.Vow{}) {
				want = api.OK
			}
			if c, e := Open(p); (c != nil) != (want == api.OK) || e != want {
				t.Errorf("%q, %q: Open behind the crash: %v, %d", record, left, c, e)
			}
		}
	}
}

// A vow that does not last yet is one like any other.
func TestOpenLoose(t *testing.T) {
	v, w := vow(at(1, 1), at(1, 1), state(1, 1, 1)), vow(at(2, 2), at(1, 1), state(2, 2, 2, 22))
	p := tapeOf(t, 100, laidVow(v))
	if e := p.Add([]byte(laidVow(w))); e != api.OK {
		t.Fatal(e)
	}
	c := open(t, p)
	has(t, "loose", c, w)
	prepares(t, "loose", c, at(3, 0), promised(w, at(3, 0)), true, api.OK)
	is(t, "behind Prepare", c, p, promised(w, at(3, 0)))
	if e := p.Add([]byte(laid("no vow"))); e != api.OK {
		t.Fatal(e)
	}
	if c, e := Open(p); c != nil || e != api.ErrForm {
		t.Errorf("no vow: Open: %v, %d", c, e)
	}
}

func TestNil(t *testing.T) {
	var c *Council
	for range 2 {
		has(t, "nil", c, api.Vow{})
		for _, b := range append(badBallots(), at(0, 0), at(5, 5), at(most, most)) {
			prepares(t, "nil", c, b, api.Vow{}, false, api.ErrArg)
			accepts(t, "nil", c, b, state(1, 2, 3, 20), false, api.ErrArg)
			accepts(t, "nil", c, b, state(-1, 2, 3, 20), false, api.ErrArg)
		}
	}
}

// A council that Open did not make: no call of it panics, either, and nothing can be laid down.
func TestNoBook(t *testing.T) {
	var c Council
	prepares(t, "no book", &c, at(0, 0), api.Vow{}, false, api.OK)
	prepares(t, "no book", &c, at(1, 0), api.Vow{}, false, api.ErrArg)
	accepts(t, "no book", &c, at(0, 0), state(-1, 0, 0), false, api.ErrForm)
	accepts(t, "no book", &c, at(0, 0), state(1, 0, 0), false, api.ErrArg)
	has(t, "no book", &c, api.Vow{})
}

// P15.2

func TestPrepare(t *testing.T) {
	taken := state(1, 2, 3, 20, 200)
	for _, p := range ballots() {
		for _, b := range ballots() {
			v := vow(p, at(0, 0), taken)
			c, on := councilOf(t, v)
			if below(p, b) {
				v = promised(v, b)
			}
			what := fmt.Sprint("promised ", p)
			prepares(t, what, c, b, v, below(p, b), api.OK)
			is(t, what, c, on, v)
			prepares(t, what+", once more", c, b, v, false, api.OK)
			is(t, what+", once more", c, on, v)
		}
	}
}

func TestAccept(t *testing.T) {
	for i, p := range ballots() {
		for j, b := range ballots() {
			v := vow(p, at(0, 0), soundStates()[i%len(soundStates())])
			s := soundStates()[j%len(soundStates())]
			c, on := councilOf(t, v)
			if !below(b, p) {
				v = vow(b, b, s)
			}
			what := fmt.Sprint("promised ", p)
			accepts(t, what, c, b, s, !below(b, p), api.OK)
			is(t, what, c, on, v)
		}
	}
}

// Each state is taken at the promised ballot and above it, in the place of each other one, and at the same ballot again.
func TestAcceptStates(t *testing.T) {
	for _, v := range vows() {
		for _, s := range soundStates() {
			c, on := councilOf(t, v)
			for range 2 {
				accepts(t, "the promised one", c, v.Promised, s, true, api.OK)
				is(t, "the promised one", c, on, vow(v.Promised, v.Promised, s))
			}
			accepts(t, "in its place", c, v.Promised, v.Taken, true, api.OK)
			is(t, "in its place", c, on, vow(v.Promised, v.Promised, v.Taken))
			prepares(t, "the same", c, v.Promised, vow(v.Promised, v.Promised, v.Taken), false, api.OK)
		}
	}
}

// The first calls of a new one.
func TestNew(t *testing.T) {
	p, _ := tape.New(1000)
	c := open(t, p)
	has(t, "new", c, api.Vow{})
	prepares(t, "the ballot without anything", c, at(0, 0), api.Vow{}, false, api.OK)
	stands(t, "not given", p, "")
	accepts(t, "the ballot without anything", c, at(0, 0), api.State{}, true, api.OK)
	is(t, "taken", c, p, api.Vow{})
	accepts(t, "the ballot without anything", c, at(0, 0), state(1, 2, 3, 20), true, api.OK)
	is(t, "taken", c, p, vow(at(0, 0), at(0, 0), state(1, 2, 3, 20)))
	prepares(t, "the least one above", c, at(0, 1), vow(at(0, 1), at(0, 0), state(1, 2, 3, 20)), true, api.OK)
	accepts(t, "below what is promised now", c, at(0, 0), state(4, 5, 6), false, api.OK)
	is(t, "promised", c, p, vow(at(0, 1), at(0, 0), state(1, 2, 3, 20)))
	accepts(t, "above it", c, at(1, 0), state(4, 5, 6), true, api.OK)
	is(t, "taken", c, p, vow(at(1, 0), at(1, 0), state(4, 5, 6)))
}

// A vow is laid down alone, in the place of all records that there were.
func TestAlone(t *testing.T) {
	v := vow(at(3, 7), at(2, 300), state(1, 2, 3, 20))
	text := laid("no vow", vowBytes(api.Vow{}), "", strings.Repeat("r", 200), vowBytes(v))
	for _, b := range []api.Ballot{at(0, 0), at(3, 7), at(3, 8), at(4, 0)} {
		p := tapeOf(t, 1000, text)
		c := open(t, p)
		if below(v.Promised, b) {
			prepares(t, "several records", c, b, promised(v, b), true, api.OK)
			is(t, "several records", c, p, promised(v, b))
		} else {
			prepares(t, "several records", c, b, v, false, api.OK)
			stands(t, "not given", p, text)
		}
		p = tapeOf(t, 1000, text)
		c = open(t, p)
		if below(b, v.Promised) {
			accepts(t, "several records", c, b, state(4, 5, 6), false, api.OK)
			stands(t, "not taken", p, text)
		} else {
			accepts(t, "several records", c, b, state(4, 5, 6), true, api.OK)
			is(t, "several records", c, p, vow(b, b, state(4, 5, 6)))
		}
	}
}

// A council has its book's methods.
func TestRecords(t *testing.T) {
	p, _ := tape.New(1000)
	c := open(t, p)
	if l := c.Records(); len(l) != 0 {
		t.Errorf("Records of a new one: %q", l)
	}
	for n := range 5 {
		accepts(t, "records", c, at(n, n), state(n, n, n, n), true, api.OK)
		if l := c.Records(); len(l) != 1 || string(l[0]) != vowBytes(c.Vow()) {
			t.Errorf("Records: %q", l)
		}
	}
}

// A ballot below 0, ahead of all else that might be said.
func TestBadBallots(t *testing.T) {
	for _, v := range []api.Vow{{}, vow(at(3, 7), at(2, 300), state(1, 2, 3, 20)), vow(at(most, most), at(0, 0), state(1, 2, 3))} {
		for _, b := range badBallots() {
			c, p := councilOf(t, v)
			p.Fail(0)
			for range 2 {
				prepares(t, "below 0", c, b, api.Vow{}, false, api.ErrArg)
				accepts(t, "below 0", c, b, state(1, 2, 3, 20), false, api.ErrArg)
				accepts(t, "below 0", c, b, state(1, 2, 3, -20), false, api.ErrArg)
				is(t, "below 0", c, p, v)
			}
		}
	}
}

// A state that is not sound goes ahead of a ballot that is too low, and of what the tape says.
func TestBadStates(t *testing.T) {
	v := vow(at(3, 7), at(2, 300), state(1, 2, 3, 20))
	for _, s := range badStates() {
		for _, b := range []api.Ballot{at(0, 0), at(3, 6), at(3, 7), at(3, 8), at(most, most)} {
			c, p := councilOf(t, v)
			p.Fail(0)
			accepts(t, "not sound", c, b, s, false, api.ErrForm)
			is(t, "not sound", c, p, v)
			p.Fail(-1)
			full := tapeOf(t, len(laidVow(v)), laidVow(v))
			accepts(t, "not sound, no room", open(t, full), b, s, false, api.ErrForm)
			stands(t, "not sound, no room", full, laidVow(v))
			accepts(t, "sound behind it", c, b, v.Taken, !below(b, v.Promised), api.OK)
		}
	}
}

// What is not given, or not taken, is not written.
func TestNotWritten(t *testing.T) {
	v := vow(at(3, 7), at(2, 300), state(1, 2, 3, 20))
	text := laidVow(v)
	p := tapeOf(t, len(text), text)
	c := open(t, p)
	p.Fail(0)
	for range 2 {
		for _, b := range []api.Ballot{at(0, 0), at(0, most), at(3, 0), at(3, 6)} {
			prepares(t, "below", c, b, v, false, api.OK)
			accepts(t, "below", c, b, state(4, 5, 6), false, api.OK)
		}
		prepares(t, "just the same", c, at(3, 7), v, false, api.OK)
		is(t, "not written", c, p, v)
	}
}

// One Replace a call that is given or taken, no other one.
func TestWritesOnce(t *testing.T) {
	for after := range 6 {
		c, p := councilOf(t, api.Vow{})
		p.Fail(after)
		for n := range 6 {
			want := api.OK
			if n >= after {
				want = api.ErrDown
			}
			if n%2 == 0 {
				accepts(t, fmt.Sprint("Fail ", after), c, at(n, 1), state(n, n, n), want == api.OK, want)
			} else if _, given, e := c.Prepare(at(n, 1)); given != (want == api.OK) || e != want {
				t.Errorf("Fail(%d): Prepare: %v, %d", after, given, e)
			}
		}
	}
}

// A tape without room for a vow by one byte: nothing is changed, nothing counts for Fail, and the council goes on.
func TestFull(t *testing.T) {
	small := vow(at(3, 7), at(2, 3), state(1, 2, 3, 20))
	promise, taken := promised(small, at(128, 7)), vow(at(4, 0), at(4, 0), state(1, 2, 3, 20, 21))
	text := laidVow(small)
	for _, large := range []api.Vow{promise, taken} {
		if len(laidVow(large)) != len(text)+1 {
			t.Fatalf("%+v is not a byte larger", large)
		}
	}
	p := tapeOf(t, len(text), text)
	c := open(t, p)
	p.Fail(3)
	for range 4 {
		prepares(t, "full", c, promise.Promised, api.Vow{}, false, api.ErrFull)
		is(t, "full", c, p, small)
		accepts(t, "full", c, taken.At, taken.Taken, false, api.ErrFull)
		is(t, "full", c, p, small)
		prepares(t, "full: below", c, at(3, 6), small, false, api.OK)
		accepts(t, "full: not sound", c, at(4, 0), state(-1, 0, 0), false, api.ErrForm)
		accepts(t, "full: below 0", c, at(4, -1), state(1, 0, 0), false, api.ErrArg)
	}
	prepares(t, "to the last byte", c, at(3, 8), promised(small, at(3, 8)), true, api.OK)
	is(t, "to the last byte", c, p, promised(small, at(3, 8)))
	accepts(t, "to the last byte", c, at(4, 0), state(5, 6, 7, 28), true, api.OK)
	accepts(t, "full again", c, at(4, 0), state(5, 6, 7, 128), false, api.ErrFull)
	is(t, "to the last byte", c, p, vow(at(4, 0), at(4, 0), state(5, 6, 7, 28)))
	accepts(t, "less", c, at(5, 0), state(1, 2, 3), true, api.OK)
	is(t, "less", c, p, vow(at(5, 0), at(5, 0), state(1, 2, 3)))
	prepares(t, "the fourth write", c, at(6, 0), api.Vow{}, false, api.ErrDown)
}

// No room for any vow, or for just the least one.
func TestLittleRoom(t *testing.T) {
	least := len(laidVow(api.Vow{}))
	for room := range least + 2 {
		p, _ := tape.New(room)
		c := open(t, p)
		want, taken := api.ErrFull, false
		if room >= least {
			want, taken = api.OK, true
		}
		what := fmt.Sprint("room ", room)
		accepts(t, what, c, at(0, 0), api.State{}, taken, want)
		accepts(t, what, c, at(127, 127), state(127, 127, 127), taken, want)
		if _, given, e := c.Prepare(at(127, 128)); given != (room > least) || e != api.OK && e != api.ErrFull || given != (e == api.OK) {
			t.Errorf("%s: Prepare: %v, %d", what, given, e)
		}
	}
}

// The greatest vow that there is finds room.
func TestGreatest(t *testing.T) {
	b, s := at(most, most), state(most, most, most, slices.Repeat([]int{255}, 16)...)
	text := laidVow(vow(b, b, s))
	p, _ := tape.New(len(text))
	c := open(t, p)
	accepts(t, "greatest", c, b, s, true, api.OK)
	is(t, "greatest", c, p, vow(b, b, s))
	prepares(t, "nothing is above it", c, b, vow(b, b, s), false, api.OK)
	p.Crash(0, 1)
	is(t, "greatest, anew", open(t, p), p, vow(b, b, s))
}

// P15.3

// falls: calls that the tape goes down with, by their names.
func falls() map[string]func(c *Council) api.Errno {
	return map[string]func(c *Council) api.Errno{
		"Prepare": func(c *Council) api.Errno {
			v, given, e := c.Prepare(at(8, 8))
			if given || !none(v) {
				return -1
			}
			return e
		},
		"Accept": func(c *Council) api.Errno {
			taken, e := c.Accept(at(8, 8), state(8, 8, 8, 88))
			if taken {
				return -1
			}
			return e
		},
		"Accept of what is promised": func(c *Council) api.Errno {
			taken, e := c.Accept(at(3, 7), state(8, 8, 8, 88))
			if taken {
				return -1
			}
			return e
		},
	}
}

// downAll: does it answer ErrDown to all, and keep the vow that was?
func downAll(t *testing.T, what string, c *Council, was api.Vow) {
	t.Helper()
	for range 2 {
		for _, b := range []api.Ballot{at(0, 0), at(3, 7), at(3, 8), at(8, 8), at(9, 9), at(-1, 0), at(0, -1), at(least, least)} {
			prepares(t, what, c, b, api.Vow{}, false, api.ErrDown)
			accepts(t, what, c, b, state(4, 5, 6), false, api.ErrDown)
			accepts(t, what, c, b, state(4, -5, 6), false, api.ErrDown)
			has(t, what, c, was)
		}
	}
}

// A tape that goes down at a call: all behind it are ErrDown, ahead of the crash and behind it, faults among them; a new Open finds the vow that was, and goes on.
func TestDown(t *testing.T) {
	was := vow(at(3, 7), at(2, 300), state(1, 2, 3, 20))
	for name, fall := range falls() {
		for _, keep := range []int{least, -1, 0, 1, 7, 100, most} {
			for _, turn := range []byte{0, 1, 0x80, 0xff} {
				c, p := councilOf(t, was)
				p.Fail(0)
				if e := fall(c); e != api.ErrDown {
					t.Fatalf("%s: %d", name, e)
				}
				downAll(t, name, c, was)
				if d, e := Open(p); d != nil || e != api.ErrDown {
					t.Errorf("%s: Open of what is down: %v, %d", name, d, e)
				}
				p.Crash(keep, turn)
				downAll(t, name+", crashed", c, was)
				stands(t, name+", crashed", p, laidVow(was))
				d := open(t, p)
				is(t, name+", anew", d, p, was)
				downAll(t, name+", the elder one", c, was)
				prepares(t, name+", anew", d, at(3, 8), promised(was, at(3, 8)), true, api.OK)
				accepts(t, name+", anew", d, at(8, 8), state(8, 8, 8, 88), true, api.OK)
				is(t, name+", anew", d, p, vow(at(8, 8), at(8, 8), state(8, 8, 8, 88)))
			}
		}
	}
}

// A tape that another's call brought down: the council hears of it when it writes, not ahead of that.
func TestDownByOther(t *testing.T) {
	was := vow(at(3, 7), at(2, 300), state(1, 2, 3, 20))
	c, p := councilOf(t, was)
	p.Fail(0)
	if e := p.Add(nil); e != api.ErrDown {
		t.Fatal(e)
	}
	prepares(t, "below", c, at(3, 7), was, false, api.OK)
	accepts(t, "below", c, at(3, 6), state(1, 2, 3), false, api.OK)
	prepares(t, "below 0", c, at(-1, 7), api.Vow{}, false, api.ErrArg)
	accepts(t, "not sound", c, at(8, 8), state(-1, 2, 3), false, api.ErrForm)
	accepts(t, "written", c, at(8, 8), state(1, 2, 3), false, api.ErrDown)
	downAll(t, "down", c, was)
	p.Crash(0, 0)
	is(t, "anew", open(t, p), p, was)
}

// Behind each number of calls, and a crash, Open finds the vow that the last one left.
func TestCrashes(t *testing.T) {
	for calls := range 12 {
		for _, keep := range []int{-1, 0, 1, 5, 20, most} {
			for _, turn := range []byte{0, 1, 0x80} {
				p, _ := tape.New(1000)
				c := open(t, p)
				want := api.Vow{}
				for n := range calls {
					b := at(n*7%5, n)
					if n%3 == 0 {
						if below(want.Promised, b) {
							want.Promised = b
						}
						c.Prepare(b)
					} else {
						if !below(b, want.Promised) {
							want = vow(b, b, state(n, n+1, n+2, n, n+1))
						}
						c.Accept(b, state(n, n+1, n+2, n, n+1))
					}
				}
				p.Crash(keep, turn)
				d := open(t, p)
				has(t, fmt.Sprint(calls, " calls"), d, want)
				if calls > 1 { // the first one asks for the ballot without anything
					is(t, fmt.Sprint(calls, " calls"), d, p, want)
				}
			}
		}
	}
}

// Memory

// wide: a list with spare room that is not empty.
func wide(list ...int) []int {
	out := make([]int, len(list), len(list)+3)
	copy(out, list)
	copy(out[len(out):cap(out)], []int{71, 72, 73})
	return out
}

// turnAll: each number of a list, its spare room included, becomes another.
func turnAll(list []int) {
	list = list[:cap(list)]
	for i := range list {
		list[i] = 99
	}
}

// What is handed in is neither changed nor kept, its spare room included.
func TestHandedIn(t *testing.T) {
	for _, b := range []api.Ballot{at(0, 0), at(3, 7), at(4, 0), at(-1, 0)} {
		c, p := councilOf(t, vow(at(3, 7), at(2, 300), state(1, 2, 3, 20)))
		want := c.Vow()
		s := state(4, 5, 6)
		s.Chests = wide(30, 31)
		taken, _ := c.Accept(b, s)
		if taken {
			want = vow(b, b, state(4, 5, 6, 30, 31))
		}
		if !slices.Equal(s.Chests[:5], []int{30, 31, 71, 72, 73}) {
			t.Errorf("what was handed in is now %v", s.Chests[:5])
		}
		turnAll(s.Chests)
		is(t, "turned", c, p, want)
		prepares(t, "turned", c, at(9, 9), promised(want, at(9, 9)), true, api.OK)
		is(t, "turned", c, p, promised(want, at(9, 9)))
	}
}

// An empty list with spare room is handed in as well as none.
func TestHandedInEmpty(t *testing.T) {
	c, p := councilOf(t, api.Vow{})
	s := state(1, 2, 3)
	s.Chests = wide()
	accepts(t, "empty", c, at(1, 1), s, true, api.OK)
	if v := c.Vow(); cap(v.Taken.Chests) > 0 {
		turnAll(v.Taken.Chests)
	}
	if !slices.Equal(s.Chests[:3], []int{71, 72, 73}) {
		t.Errorf("what was handed in is now %v", s.Chests[:3])
	}
	turnAll(s.Chests)
	is(t, "empty", c, p, vow(at(1, 1), at(1, 1), state(1, 2, 3)))
}

// What is answered is the caller's: nothing of it, nor of its spare room, is the council's or another answer's.
func TestAnswered(t *testing.T) {
	want := vow(at(3, 7), at(2, 300), state(1, 2, 3, 20, 21, 22))
	c, p := councilOf(t, want)
	answers := func() []api.Vow {
		same, _, _ := c.Prepare(want.Promised)
		low, _, _ := c.Prepare(at(0, 0))
		want.Promised.Number++
		above, _, _ := c.Prepare(want.Promised)
		return []api.Vow{c.Vow(), same, low, above, c.Vow()}
	}
	for i := range 5 {
		list := answers()
		turnAll(list[i].Taken.Chests)
		for j, v := range list {
			if j != i && !slices.Equal(v.Taken.Chests, []int{20, 21, 22}) {
				t.Errorf("answer %d turned: answer %d is %v", i, j, v)
			}
		}
		is(t, fmt.Sprint("answer ", i, " turned"), c, p, want)
	}
	accepts(t, "taken", c, at(900, 0), state(4, 5, 6, 30, 31), true, api.OK)
	v := c.Vow()
	turnAll(v.Taken.Chests)
	want = vow(at(900, 0), at(900, 0), state(4, 5, 6, 30, 31))
	is(t, "taken, turned", c, p, want)
	prepares(t, "taken, turned", c, at(901, 0), promised(want, at(901, 0)), true, api.OK)
}

// What was answered may be handed in again.
func TestAnswerHandedIn(t *testing.T) {
	c, p := councilOf(t, vow(at(3, 7), at(2, 300), state(1, 2, 3, 20, 21)))
	v := c.Vow()
	accepts(t, "its own", c, at(4, 0), v.Taken, true, api.OK)
	turnAll(v.Taken.Chests)
	is(t, "its own", c, p, vow(at(4, 0), at(4, 0), state(1, 2, 3, 20, 21)))
}

func TestTwoCouncils(t *testing.T) {
	v, w := vow(at(1, 1), at(1, 1), state(1, 1, 1, 20)), vow(at(2, 2), at(2, 2), state(2, 2, 2, 21))
	a, p := councilOf(t, v)
	b, q := councilOf(t, w)
	p.Fail(0)
	prepares(t, "the one", a, at(3, 3), api.Vow{}, false, api.ErrDown)
	prepares(t, "the other", b, at(3, 3), promised(w, at(3, 3)), true, api.OK)
	has(t, "the one", a, v)
	is(t, "the other", b, q, promised(w, at(3, 3)))
}

// All promises together

// plain: a council and its tape as the words say it.
type plain struct {
	room        int
	vow         api.Vow
	text        string // what stands on the tape
	said        bool   // did a call answer ErrDown?
	down        bool   // is the tape?
	after, done int    // the tape has to go down with the write behind so many; so many were done since
}

// refuse: what is told of a ballot, and of a state, ahead of all else.
func (q *plain) refuse(b api.Ballot, sound bool) api.Errno {
	switch {
	case q.said:
		return api.ErrDown
	case b.Number < 0 || b.Node < 0:
		return api.ErrArg
	case !sound:
		return api.ErrForm
	}
	return api.OK
}

// write: a vow is to stand alone.
func (q *plain) write(v api.Vow) api.Errno {
	text := laidVow(v)
	switch {
	case q.down:
		q.said = true
		return api.ErrDown
	case len(text) > q.room:
		return api.ErrFull
	case q.after >= 0 && q.done >= q.after:
		q.down, q.said = true, true
		return api.ErrDown
	}
	q.done++
	q.vow, q.text = v, text
	return api.OK
}

func (q *plain) prepare(b api.Ballot) (api.Vow, bool, api.Errno) {
	if e := q.refuse(b, true); e != api.OK {
		return api.Vow{}, false, e
	}
	if !below(q.vow.Promised, b) {
		return q.vow, false, api.OK
	}
	if e := q.write(promised(q.vow, b)); e != api.OK {
		return api.Vow{}, false, e
	}
	return q.vow, true, api.OK
}

func (q *plain) accept(b api.Ballot, s api.State, sound bool) (bool, api.Errno) {
	if e := q.refuse(b, sound); e != api.OK {
		return false, e
	}
	if below(b, q.vow.Promised) {
		return false, api.OK
	}
	e := q.write(vow(b, b, s))
	return e == api.OK, e
}

// pair: a council on a tape, and one as the words say it.
type pair struct {
	c *Council
	p *tape.Tape
	q *plain
}

// step: one call of both: are the answers the same?
type step struct {
	name string
	do   func(x *pair) bool
}

func (x *pair) prepare(b api.Ballot) bool {
	v, g, e := x.c.Prepare(b)
	w, h, f := x.q.prepare(b)
	return same(v, w) && g == h && e == f
}

func (x *pair) accept(b api.Ballot, s api.State, sound bool) bool {
	g, e := x.c.Accept(b, s)
	h, f := x.q.accept(b, s, sound)
	return g == h && e == f
}

func (x *pair) fail(n int) bool {
	x.p.Fail(n)
	x.q.after, x.q.done = n, 0
	return true
}

// anew: the tape crashes, and has the council opened.
func (x *pair) anew(keep int, turn byte) bool {
	x.p.Crash(keep, turn)
	x.q.down, x.q.said, x.q.after = false, false, -1
	var e api.Errno
	x.c, e = Open(x.p)
	return e == api.OK
}

func steps(list ...api.Ballot) []step {
	var out []step
	for _, b := range list {
		out = append(out, step{fmt.Sprint("prepare ", b), func(x *pair) bool { return x.prepare(b) }})
		for _, s := range []api.State{{}, state(1, 2, 3, 20, 21)} {
			out = append(out, step{fmt.Sprint("accept ", b, s), func(x *pair) bool { return x.accept(b, s, true) }})
		}
		out = append(out, step{fmt.Sprint("accept ", b, " of what is not sound"), func(x *pair) bool { return x.accept(b, state(1, 2, -3), false) }})
	}
	for n := range 3 {
		out = append(out, step{fmt.Sprint("fail ", n-1), func(x *pair) bool { return x.fail(n - 1) }})
	}
	for _, turn := range []byte{0, 1} {
		out = append(out, step{fmt.Sprint("crash and open, turn ", turn), func(x *pair) bool { return x.anew(1, turn) }})
	}
	out = append(out, step{"crash", func(x *pair) bool { // the elder one is asked on
		x.p.Crash(0, 0)
		x.q.down, x.q.after = false, -1
		return true
	}})
	return append(out, step{"open", func(x *pair) bool {
		c, e := Open(x.p)
		if x.q.down { // the elder one stays the newest that there is
			return c == nil && e == api.ErrDown
		}
		x.c, x.q.said = c, false
		return e == api.OK
	}})
}

// same: is the council, and its tape, what the words say?
func (x *pair) same() bool {
	if !same(x.c.Vow(), x.q.vow) || x.p.Loose() != 0 {
		return false
	}
	text, e := x.p.Bytes()
	if x.q.down {
		return e == api.ErrDown
	}
	return e == api.OK && string(text) == x.q.text
}

// walk goes this way with a new council, and fails where it is not what the words say. Of the way only the last steps are asked about, from the given one on.
func walk(t *testing.T, room int, way []step, asked int) {
	t.Helper()
	p := tapeOf(t, room, "")
	x := &pair{c: open(t, p), p: p, q: &plain{room: room, after: -1}}
	for i, s := range way {
		if !s.do(x) || i >= asked && !x.same() {
			text, e := x.p.Bytes()
			t.Fatalf("room %d: at %d: %+v, tape %q, %d; want %#v: %v", room, i, x.c.Vow(), text, e, *x.q, names(way[:i+1]))
		}
	}
}

func names(way []step) []string {
	var out []string
	for _, s := range way {
		out = append(out, s.name)
	}
	return out
}

// All ways of a few calls.
func TestShortWays(t *testing.T) {
	all := steps(at(0, 0), at(0, 1), at(1, 0), at(128, 0), at(-1, 2))
	room := len(laidVow(vow(at(1, 1), at(1, 1), state(1, 2, 3, 20, 21))))
	var further func(way []step, more int)
	further = func(way []step, more int) {
		walk(t, room, way, len(way)-1) // the elder steps were asked about when they were the last ones
		if more == 0 {
			return
		}
		for _, s := range all {
			further(append(way[:len(way):len(way)], s), more-1)
		}
	}
	further(nil, 4)
}

// Some ways of many calls, the same ones each time.
func TestLongWays(t *testing.T) {
	pick := rand.New(rand.NewPCG(15, 1))
	var list []api.Ballot
	for range 12 {
		list = append(list, at(pick.IntN(4), pick.IntN(3)), at(pick.IntN(300), pick.IntN(300)-5))
	}
	all := steps(list...)
	for _, room := range []int{0, 12, 13, 14, 16, 20, 1000} {
		for range 80 {
			way := make([]step, 60)
			for i := range way {
				way[i] = all[pick.IntN(len(all))]
			}
			walk(t, room, way, 0)
		}
	}
}
