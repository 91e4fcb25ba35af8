package chest

import (
	"fmt"
	"math/rand/v2"
	"slices"
	"strings"
	"testing"

	"roundhouse/api"
	"roundhouse/book"
	"roundhouse/frame"
	"roundhouse/tape"
)

// stands: is this what stands on the tape, and lasts?
func stands(t *testing.T, what string, p *tape.Tape, want []byte) {
	t.Helper()
	if got, e := p.Bytes(); string(got) != string(want) || e != api.OK || p.Loose() != 0 {
		t.Errorf("%s: the tape has %q, %d, %d loose; not %q", what, got, e, p.Loose(), want)
	}
}

// textOf: what stands on a tape.
func textOf(t *testing.T, p *tape.Tape) []byte {
	t.Helper()
	text, e := p.Bytes()
	if e != api.OK {
		t.Fatal(e)
	}
	return text
}

// full: a log of MaxHeld batches behind 10.
func full() []api.Batch { return rowOf(10, api.MaxHeld) }

// busy: calls that leave several logs, a lock, and something popped.
func busy() []call {
	return []call{
		lay(2, 10, row(10, 20, 30)...), push(2, b(30, 40)), push(2, api.Batch{Prev: 40, Version: 50, Known: 45}), pop(2, 50), push(2, b(50, 60)),
		lay(4, 7, row(7, 8, 9)...), push(4, b(9, 11)), pop(4, 8), lay(3, 5), lockAt(3, 2), lay(9, 0, api.Batch{Version: 1, Changes: []api.Change{{Kind: api.Put, Key: "a", Value: "1"}, {Kind: api.Wipe, Key: "b", Value: "c"}}}),
	}
}

// one of each kind of call.
func oneOfEach(epoch int) []call {
	return []call{lay(epoch, 5), lay(epoch, 5, b(5, 7)), push(epoch, b(5, 7)), lockAt(epoch, epoch), live(epoch), peek(epoch, 5, 5), pop(epoch, 5), retire(epoch)}
}

// P16.1

func TestOpenNil(t *testing.T) {
	for range 2 {
		if c, e := Open(nil); c != nil || e != api.ErrArg {
			t.Errorf("Open(nil): %v, %d", c, e)
		}
	}
}

func TestOpenEmpty(t *testing.T) {
	for _, room := range []int{0, 1, 100, api.MaxTape} {
		p, _ := tape.New(room)
		p.Fail(0) // nothing is written, so it does not go down
		if got := viewOf(open(t, p)); got != newPlain().view() {
			t.Errorf("room %d: %s", room, got)
		}
		stands(t, fmt.Sprint("room ", room), p, nil)
	}
}

func TestOpenDown(t *testing.T) {
	whole := textOf(t, newPair(t, busy()...).p)
	for _, text := range [][]byte{nil, whole, append(slices.Clone(whole), 'x'), laidBytes([]byte("none")), append(laidBytes([]byte("none")), 'x')} {
		p := tapeOf(t, len(text), text)
		p.Fail(0)
		if e := p.Sync(); e != api.ErrDown {
			t.Fatalf("Sync: %d", e)
		}
		for range 2 {
			if c, e := Open(p); c != nil || e != api.ErrDown {
				t.Errorf("%q: Open: %v, %d", text, c, e)
			}
		}
		p.Crash(0, 1)
		stands(t, "behind Open that was not done", p, text)
	}
}

// What each kind of record tells, as it stands in the book.
func TestOpenRecords(t *testing.T) {
	p := tapeOf(t, 2000, laidBytes(
		recordBytes([]int{locked, 300, 0, 0}),
		recordBytes([]int{laid, 2, 10, 0}, row(10, 20, 30)...),
		recordBytes([]int{popped, 2, 40, 35}),
		recordBytes([]int{pushed, 2, 0, 0}, api.Batch{Prev: 40, Version: 50, Known: 5}),
		recordBytes([]int{laid, 300, 10, 0}),
		recordBytes([]int{laid, 1, 10, 0}, row(10, 20, 30)...),
		recordBytes([]int{popped, 1, 20, 20}),
	))
	p.Fail(0)
	c := open(t, p)
	want := "lock 300; 1: laid 10 [{10 20 10 []} {20 30 20 []}]; 20, known 20, [{20 30 20 []}]; 2: laid 10 [{10 20 10 []} {20 30 20 []}]; 40, known 35, [{40 50 5 []}]; 300: laid 10 []; 10, known 0, []"
	if got := viewOf(c); got != want {
		t.Errorf("%s; not %s", got, want)
	}
}

// noRecords: lists of records that are none of a chest, by what is wrong with them.
func noRecords(t *testing.T) map[string][][]byte {
	bad := unsoundBytes()
	begun := recordBytes([]int{laid, 2, 10, 0}, row(10, 20, 30)...)
	out := map[string][][]byte{
		"an empty record":                {{}},
		"zeros":                          {make([]byte, 9)},
		"ones":                           {[]byte(strings.Repeat("\xff", 40))},
		"words":                          {[]byte("none")},
		"a text without numbers":         {recordBytes(nil)},
		"three numbers":                  {recordBytes([]int{locked, 3, 0})},
		"five numbers":                   {recordBytes([]int{locked, 3, 0, 0, 0})},
		"no kind":                        {recordBytes([]int{0, 3, 0, 0})},
		"a kind too many":                {recordBytes([]int{5, 3, 0, 0})},
		"a kind too many of a log":       {begun, recordBytes([]int{5, 2, 0, 0})},
		"no kind of a log":               {begun, recordBytes([]int{0, 2, 0, 0}, b(30, 40))},
		"a great kind":                   {recordBytes([]int{most, 3, 0, 0})},
		"gone on with":                   {append(recordBytes([]int{locked, 3, 0, 0}), 0)},
		"a lock at 0":                    {recordBytes([]int{locked, 0, 0, 0})},
		"a lock with a base":             {recordBytes([]int{locked, 3, 1, 0})},
		"a lock with what is known":      {recordBytes([]int{locked, 3, 0, 1})},
		"a lock with a batch":            {recordBytes([]int{locked, 3, 0, 0}, b(0, 1))},
		"two locks":                      {recordBytes([]int{locked, 3, 0, 0}), recordBytes([]int{locked, 4, 0, 0})},
		"a log at 0":                     {recordBytes([]int{laid, 0, 10, 0})},
		"a log with what is known":       {recordBytes([]int{laid, 2, 10, 1})},
		"a log that is none":             {recordBytes([]int{laid, 2, 10, 0}, b(11, 20))},
		"a log that falls":               {recordBytes([]int{laid, 2, 10, 0}, b(10, 10))},
		"a log with a gap":               {recordBytes([]int{laid, 2, 10, 0}, b(10, 20), b(21, 30))},
		"a log of too many":              {recordBytes([]int{laid, 2, 10, 0}, rowOf(10, api.MaxHeld+1)...)},
		"a log with too large a batch":   {recordBytes([]int{laid, 2, 10, 0}, sized(t, 10, 20, 0, api.MaxLaid+1))},
		"a log with an unsound batch":    {append(recordBytes([]int{laid, 2, 10, 0}), bad...)},
		"a log twice":                    {begun, begun},
		"a batch without a log":          {recordBytes([]int{pushed, 2, 0, 0}, b(0, 20))},
		"a batch of another log":         {begun, recordBytes([]int{pushed, 3, 0, 0}, b(30, 40))},
		"a batch with a gap":             {begun, recordBytes([]int{pushed, 2, 0, 0}, b(31, 40))},
		"a batch that falls":             {begun, recordBytes([]int{pushed, 2, 0, 0}, b(30, 30))},
		"a batch that was there":         {begun, recordBytes([]int{pushed, 2, 0, 0}, b(20, 30))},
		"a batch with a base":            {begun, recordBytes([]int{pushed, 2, 1, 0}, b(30, 40))},
		"a batch with what is known":     {begun, recordBytes([]int{pushed, 2, 0, 1}, b(30, 40))},
		"no batch":                       {begun, recordBytes([]int{pushed, 2, 0, 0})},
		"two batches":                    {begun, recordBytes([]int{pushed, 2, 0, 0}, row(30, 40, 50)...)},
		"too large a batch":              {begun, recordBytes([]int{pushed, 2, 0, 0}, sized(t, 30, 40, 0, api.MaxLaid+1))},
		"an unsound batch":               {begun, append(recordBytes([]int{pushed, 2, 0, 0}), bad...)},
		"a batch too many":               {recordBytes([]int{laid, 2, 10, 0}, full()...), recordBytes([]int{pushed, 2, 0, 0}, b(34, 35))},
		"popped without a log":           {recordBytes([]int{popped, 2, 20, 10})},
		"popped of another log":          {begun, recordBytes([]int{popped, 3, 20, 20})},
		"popped in the midst":            {begun, recordBytes([]int{popped, 2, 25, 20})},
		"popped of nothing":              {begun, recordBytes([]int{popped, 2, 10, 20})},
		"popped below the base":          {begun, recordBytes([]int{popped, 2, 9, 20})},
		"popped with less that is known": {begun, recordBytes([]int{popped, 2, 20, 19})},
		"popped with a batch":            {begun, recordBytes([]int{popped, 2, 20, 20}, b(30, 40))},
		"popped, behind a later one":     {begun, recordBytes([]int{popped, 2, 30, 20}), recordBytes([]int{popped, 2, 20, 20})},
	}
	for cut := range begun {
		if cut != 5 && cut != 10 { // there a batch ends, and with fewer of them it is a log
			out[fmt.Sprint("cut off at ", cut)] = [][]byte{begun[:cut]}
		}
	}
	return out
}

// unsoundBytes: a text that is no batch: one with a change of no kind.
func unsoundBytes() []byte { return []byte{7, 10, 20, 0, 1, 9, 0, 0} }

// Records that are none of a chest, alone, and ahead of and behind those of one: the tape is as it was.
func TestOpenNone(t *testing.T) {
	fine := [][]byte{recordBytes([]int{laid, 7, 10, 0}, row(10, 20)...), recordBytes([]int{pushed, 7, 0, 0}, b(20, 30))}
	for what, bad := range noRecords(t) {
		for _, list := range [][][]byte{bad, slices.Concat(fine, bad), slices.Concat(bad, fine), slices.Concat(fine[:1], bad, fine[1:])} {
			text := laidBytes(list...)
			p := tapeOf(t, len(text), text)
			p.Fail(0)
			for range 2 {
				if c, e := Open(p); c != nil || e != api.ErrForm {
					t.Errorf("%s: Open: %v, %d", what, c, e)
				}
				stands(t, what, p, text)
			}
		}
	}
}

// lefts: bytes that are no record, behind the last one.
func lefts() [][]byte {
	whole := laidBytes(recordBytes([]int{laid, 77, 10, 0}, row(10, 20)...))
	turned := slices.Clone(whole)
	turned[len(turned)-1] ^= 1
	return [][]byte{{'x'}, {0}, whole[:1], whole[:5], whole[:len(whole)-1], turned, slices.Concat(turned, whole)}
}

// Bytes behind the last record are taken away: by one Replace, which finds room in the fullest tape.
func TestOpenLeft(t *testing.T) {
	for _, list := range [][]call{nil, busy()[:1], busy()} {
		x := newPair(t, list...)
		text := textOf(t, x.p)
		for _, left := range lefts() {
			all := slices.Concat(text, left)
			for _, spare := range []int{0, 100} {
				p := tapeOf(t, len(all)+spare, all)
				p.Fail(1)
				c := open(t, p)
				if got := viewOf(c); got != x.q.view() {
					t.Errorf("%q: %s; not %s", left, got, x.q.view())
				}
				stands(t, "left", p, text)
				if _, _, _, e := c.Lock(99, 0); spare > 0 && e != api.ErrDown {
					t.Errorf("a second write: %d", e)
				}
			}
		}
	}
}

// What the book says to bytes that are left goes ahead of records that are none of a chest.
func TestOpenLeftNone(t *testing.T) {
	for what, bad := range noRecords(t) {
		text := laidBytes(bad...)
		all := append(slices.Clone(text), 'x')
		p := tapeOf(t, len(all), all)
		p.Fail(0)
		if c, e := Open(p); c != nil || e != api.ErrDown {
			t.Errorf("%s: Open: %v, %d", what, c, e)
		}
		p.Crash(0, 1)
		stands(t, what, p, all)
		if c, e := Open(p); c != nil || e != api.ErrForm {
			t.Errorf("%s: Open behind the crash: %v, %d", what, c, e)
		}
		stands(t, what, p, text)
	}
}

// Records that do not last yet are like any others.
func TestOpenLoose(t *testing.T) {
	x := newPair(t, lay(2, 10, row(10, 20)...))
	if e := x.p.Add(laidBytes(recordBytes([]int{pushed, 2, 0, 0}, b(20, 30)))); e != api.OK {
		t.Fatal(e)
	}
	x.c = open(t, x.p)
	push(2, b(20, 30)).ofPlain(x.q)
	if got := viewOf(x.c); got != x.q.view() {
		t.Errorf("loose: %s; not %s", got, x.q.view())
	}
	x.do(push(2, b(30, 40)))
	x.anew()
}

func TestNil(t *testing.T) {
	var c *Chest
	for _, epoch := range []int{least, -1, 0, 1, 2, most} {
		for _, one := range oneOfEach(epoch) {
			if got := one.of(c).text(); got != (answer{e: api.ErrArg}).text() {
				t.Errorf("%s of none: %s", one, got)
			}
		}
		if got := c.Epochs(); len(got) > 0 {
			t.Errorf("Epochs of none: %v", got)
		}
	}
}

// A chest that Open did not make: no call of it panics, either, and nothing can be laid down.
func TestNoBook(t *testing.T) {
	var c Chest
	for _, x := range []struct {
		one call
		e   api.Errno
	}{
		{lay(1, 5), api.ErrArg}, {lay(1, 5, b(6, 7)), api.ErrForm}, {push(1, b(5, 7)), api.ErrNone}, {lockAt(1, 1), api.ErrArg}, {live(1), api.ErrNone}, {peek(1, 5, 5), api.ErrNone}, {pop(1, 5), api.ErrNone}, {retire(1), api.OK},
	} {
		if got := x.one.of(&c).text(); got != (answer{e: x.e}).text() {
			t.Errorf("%s: %s, not %d", x.one, got, x.e)
		}
	}
	if got := viewOf(&c); got != newPlain().view() {
		t.Error(got)
	}
}

// Numbers that may not be: whatever else is asked, and of a log that is there or not.
func TestNumbers(t *testing.T) {
	x := newPair(t, busy()...)
	for _, wrong := range []int{0, -1, -2, least} {
		x.refuses(api.ErrArg, oneOfEach(wrong)...)
		x.refuses(api.ErrArg, lay(wrong, 10, row(10, 20, 30)...), push(wrong, unsound(1, 2)), lockAt(wrong, 0), lockAt(wrong, -1), lay(wrong, -1, unsound(1, 2)), peek(wrong, -1, -1), pop(wrong, -1))
		if wrong == 0 {
			continue
		}
		for _, epoch := range []int{1, 2, 3, 4, 9, 10, most} {
			x.refuses(api.ErrArg, lay(epoch, wrong), lay(epoch, wrong, b(wrong, 5)), lockAt(epoch, wrong), peek(epoch, wrong, 5), peek(epoch, 50, wrong), peek(epoch, wrong, wrong), pop(epoch, wrong))
		}
	}
}

// Numbers at their ends that may be.
func TestNumbersAtEnds(t *testing.T) {
	x := newPair(t, lay(1, 0), lay(most, most), lay(2, 0, b(0, most)), lay(3, most-1, b(most-1, most)))
	x.gives(peek(1, 0, 0), answer{})
	x.gives(peek(most, most, most), answer{})
	x.gives(peek(2, 0, most), answer{list: row(0, most)})
	x.gives(peek(3, most-1, 1), answer{b: most - 1, list: row(most-1, most)})
	x.gives(peek(3, most, most), answer{b: most - 1})
	x.gives(push(2, b(most, most)), answer{a: most})
	x.gives(pop(1, 0), answer{})
	x.gives(pop(1, 1), answer{e: api.ErrNew})
	x.gives(pop(3, most), answer{})
	x.gives(peek(3, most-1, 1), answer{e: api.ErrOld})
	x.gives(lockAt(1, 0), answer{e: api.ErrNone})
	x.gives(lockAt(1, 1), answer{})
	x.gives(lockAt(most, 3), answer{a: most, b: most - 1})
	x.gives(lockAt(most, most), answer{a: most})
	x.gives(live(most), answer{})
	x.gives(retire(most), answer{})
	if got := x.c.Epochs(); !slices.Equal(got, []int{most}) {
		t.Errorf("Epochs: %v", got)
	}
}

func TestEpochs(t *testing.T) {
	x := newPair(t)
	var want []int
	for _, epoch := range []int{7, 3, 9, 1, 300, 4, 2, 128, 8} {
		x.do(lay(epoch, epoch))
		want = append(want, epoch)
		slices.Sort(want)
		for range 2 {
			if got := x.c.Epochs(); !slices.Equal(got, want) {
				t.Errorf("Epochs: %v, not %v", got, want)
			}
		}
	}
	x.anew()
	if got := x.c.Epochs(); !slices.Equal(got, want) {
		t.Errorf("Epochs, anew: %v, not %v", got, want)
	}
}

// P16.2

func TestLay(t *testing.T) {
	with := api.Batch{Prev: 5, Version: 7, Known: 99, Changes: []api.Change{{Kind: api.Put, Key: "k", Value: "v"}}}
	for _, list := range [][]api.Batch{nil, {}, row(5, 6), row(5, 7, 9, 1000), {with}, {with, b(7, 8)}, rowOf(5, api.MaxHeld), {{Prev: 5, Version: 6, Changes: []api.Change{}}}} {
		x := newPair(t)
		for range 3 { // once, again, and again anew
			x.gives(lay(3, 5, list...), answer{})
			known := 0
			for _, y := range list {
				known = max(known, y.Known)
			}
			x.gives(peek(3, 5, most), answer{b: known, list: list})
			x.anew()
		}
	}
}

func TestLayNotALog(t *testing.T) {
	x := newPair(t, lay(2, 5, b(5, 7)))
	for epoch := 2; epoch <= 3; epoch++ { // of one that is there, too
		x.refuses(api.ErrForm,
			lay(epoch, 5, b(4, 7)), lay(epoch, 5, b(6, 7)), lay(epoch, 5, b(5, 5)), lay(epoch, 5, b(5, 4)), lay(epoch, 5, b(5, 0)), lay(epoch, 0, b(0, 0)), lay(epoch, 0, b(5, 7)),
			lay(epoch, 5, b(5, 7), b(8, 9)), lay(epoch, 5, b(5, 7), b(6, 9)), lay(epoch, 5, b(5, 7), b(5, 9)), lay(epoch, 5, b(5, 7), b(7, 7)), lay(epoch, 5, b(5, 7), b(7, 6)), lay(epoch, 5, b(7, 9), b(5, 7)),
			lay(epoch, 5, b(5, 7), b(5, 7)), lay(epoch, 5, b(5, 7), b(7, 8), b(9, 10)), lay(epoch, 5, b(5, 7), b(7, 8), b(8, 8)), lay(epoch, 5, append(rowOf(5, api.MaxHeld-1), b(5, 99))...))
	}
}

func TestLayMany(t *testing.T) {
	x := newPair(t)
	x.refuses(api.ErrFull, lay(2, 10, rowOf(10, api.MaxHeld+1)...), lay(2, 10, rowOf(10, 1000)...), lay(2, 10, make([]api.Batch, api.MaxHeld+1)...))
	x.gives(lay(2, 10, full()...), answer{})
	x.refuses(api.ErrFull, lay(2, 10, rowOf(10, api.MaxHeld+1)...), push(2, b(34, 35)))
	x.anew()
	x.refuses(api.ErrFull, lay(2, 10, rowOf(10, api.MaxHeld+1)...), push(2, b(34, 35)))
}

// Batches of the most bytes that may be, as many as may be.
func TestLayLarge(t *testing.T) {
	var list []api.Batch
	for i := range api.MaxHeld {
		list = append(list, sized(t, 10+i, 11+i, i, api.MaxLaid))
	}
	x := newPair(t)
	for i := range list {
		wrong := slices.Clone(list)
		wrong[i] = sized(t, 10+i, 11+i, i, api.MaxLaid+1)
		x.refuses(api.ErrLarge, lay(2, 10, wrong...), lay(2, 10, wrong[i]))
	}
	x.gives(lay(2, 10, list...), answer{})
	x.anew()
	x.gives(lay(2, 10, list...), answer{})
	x.gives(pop(2, 11), answer{})
	x.gives(push(2, sized(t, 34, 35, 0, api.MaxLaid)), answer{a: 35})
	x.gives(pop(2, 35), answer{})
	x.gives(lay(2, 10, list...), answer{})
	x.anew()
	x.gives(lay(2, 10, list...), answer{})
}

// A batch that is not sound, and one that is too large, at each place: the first one tells.
func TestLayFirstWrong(t *testing.T) {
	x := newPair(t, lay(5, 10, rowOf(10, 4)...))
	for epoch := 5; epoch <= 6; epoch++ {
		for i := range 4 {
			for j := range 4 {
				list := rowOf(10, 4)
				list[j] = sized(t, 10+j, 11+j, 0, api.MaxLaid+1)
				list[i].Known = -1
				want := api.ErrForm
				if j < i {
					want = api.ErrLarge
				}
				x.refuses(want, lay(epoch, 10, list...), lay(epoch, 11, list...))
			}
		}
	}
}

// batches that are not sound, by each of their parts.
func badBatches(prev, version int) []api.Batch {
	out := []api.Batch{{Prev: -1, Version: version}, {Prev: prev, Version: -1}, {Prev: prev, Version: version, Known: -1}, {Prev: least, Version: least, Known: least}}
	for _, wrong := range []api.Change{{}, {Kind: 4}, {Kind: -1}, {Kind: api.Put, Key: strings.Repeat("k", api.MaxKey+1)}, {Kind: api.Put, Value: strings.Repeat("v", api.MaxValue+1)}, {Kind: api.Clear, Key: "k", Value: "v"}, {Kind: api.Wipe, Key: "b", Value: "a"}} {
		out = append(out, api.Batch{Prev: prev, Version: version, Changes: []api.Change{wrong}}, api.Batch{Prev: prev, Version: version, Changes: []api.Change{{Kind: api.Put}, wrong, {Kind: api.Put}}})
	}
	return append(out, api.Batch{Prev: prev, Version: version, Changes: slices.Repeat([]api.Change{{Kind: api.Put}}, api.MaxList+1)})
}

func TestUnsound(t *testing.T) {
	x := newPair(t, lay(2, 10, row(10, 20)...))
	for _, wrong := range badBatches(20, 30) {
		x.refuses(api.ErrForm, push(2, wrong), lay(3, 20, wrong), lay(3, 10, b(10, 20), wrong), lay(3, 20, wrong, b(30, 40)), lay(2, 20, wrong))
	}
	for _, large := range []api.Batch{sized(t, 20, 30, 0, api.MaxLaid+1), {Prev: 20, Version: 30, Changes: slices.Repeat([]api.Change{{Kind: api.Put}}, api.MaxList)}} {
		x.refuses(api.ErrLarge, push(2, large), lay(3, 20, large), lay(3, 10, b(10, 20), large))
	}
	x.gives(push(2, sized(t, 20, 30, 0, api.MaxLaid)), answer{a: 30})
}

// Laid again: the same is nothing new, whatever came and went since; anything else clashes.
func TestLayAgain(t *testing.T) {
	change := func(x api.Batch, list ...api.Change) api.Batch {
		x.Changes = list
		return x
	}
	known := func(x api.Batch, n int) api.Batch {
		x.Known = n
		return x
	}
	a, z := api.Change{Kind: api.Put, Key: "a", Value: "1"}, api.Change{Kind: api.Clear, Key: "z"}
	list := []api.Batch{change(b(10, 20), a, z), b(20, 30)}
	x := newPair(t, lay(3, 10, list...), lay(4, 10))
	others := []call{
		lay(3, 10), lay(3, 11), lay(3, 9, b(9, 20)), lay(3, 0, b(0, 10), list[0], list[1]), lay(3, 10, list[0]), lay(3, 20, list[1]), lay(3, 10, list[0], b(20, 31)), lay(3, 10, list[0], b(20, 30), b(30, 40)),
		lay(3, 10, known(list[0], 11), list[1]), lay(3, 10, known(list[0], 0), list[1]), lay(3, 10, list[0], known(list[1], 0)), lay(3, 10, change(list[0], z, a), list[1]), lay(3, 10, change(list[0], a), list[1]), lay(3, 10, change(list[0]), list[1]),
		lay(3, 10, change(list[0], a, z, z), list[1]), lay(3, 10, list[0], change(list[1], a)), lay(4, 9), lay(4, 11), lay(4, 10, b(10, 20)), lay(4, 10, list...),
	}
	for _, between := range []call{live(3), push(3, b(30, 40)), pop(3, 20), push(3, b(40, 50)), pop(3, 40), lockAt(3, 3), pop(3, 50), push(3, b(50, 60)), push(4, b(10, 20)), pop(4, 20), retire(3)} {
		x.do(between)
		for range 2 {
			x.refuses(api.OK, lay(3, 10, list...), lay(4, 10))
			x.refuses(api.ErrClash, others...)
			x.anew()
		}
	}
	x.do(retire(4))
	x.refuses(api.OK, lay(4, 10))
	x.gives(lay(3, 11), answer{}) // of one that was retired nothing is known any more
}

func TestLayLocked(t *testing.T) {
	x := newPair(t, lay(2, 10), lay(4, 10))
	x.do(lockAt(4, 2))
	x.refuses(api.ErrLocked, lay(1, 10), lay(2, 10), lay(3, 10), lay(3, 11, b(10, 20)), lay(3, 10, unsound(10, 20)), lay(3, 10, make([]api.Batch, 100)...))
	x.gives(lay(4, 10), answer{})
	x.gives(lay(5, 10), answer{})
	x.gives(lockAt(5, 5), answer{a: 10})
	x.refuses(api.ErrLocked, lay(4, 10), lay(4, 11))
}

func TestPush(t *testing.T) {
	x := newPair(t, lay(3, 10))
	x.gives(push(3, b(9, 10)), answer{a: 10}) // not above its base
	x.gives(push(3, b(0, 0)), answer{a: 10})
	x.refuses(api.ErrOrder, push(3, b(9, 11)), push(3, b(11, 12)), push(3, b(0, most)))
	x.gives(push(3, b(10, 20)), answer{a: 20})
	x.gives(push(3, b(20, 21)), answer{a: 21})
	x.gives(push(3, b(21, 1000)), answer{a: 1000})
	for _, version := range []int{0, 9, 10, 15, 20, 21, 999, 1000} { // whatever it has
		x.gives(push(3, b(5, version)), answer{a: 1000})
		x.gives(push(3, api.Batch{Prev: 1000, Version: version, Known: 7000, Changes: []api.Change{{Kind: api.Put}}}), answer{a: 1000})
	}
	x.refuses(api.ErrOrder, push(3, b(21, 1001)), push(3, b(999, 1001)), push(3, b(1001, 1002)), push(3, b(1001, 1001)))
	x.gives(push(3, api.Batch{Prev: 1000, Version: 1001, Known: 5000}), answer{a: 1001})
	x.gives(peek(3, 10, most), answer{b: 5000, list: append(row(10, 20, 21, 1000), api.Batch{Prev: 1000, Version: 1001, Known: 5000})})
	x.anew()
	x.gives(push(3, b(1000, 1001)), answer{a: 1001})
}

func TestPushNone(t *testing.T) {
	x := newPair(t)
	x.refuses(api.ErrNone, push(1, b(0, 1)), push(1, unsound(0, 1)), push(most, b(0, 0)))
	x.do(lay(3, 10))
	x.refuses(api.ErrNone, push(2, b(10, 20)), push(4, b(10, 20)))
	x.do(lockAt(5, 3))
	x.refuses(api.ErrNone, push(2, b(10, 20)), push(4, b(10, 20)), push(5, b(10, 20)), push(6, b(10, 20)))
	x.refuses(api.ErrLocked, push(3, b(10, 20)), push(3, b(9, 10)))
}

func TestPushFull(t *testing.T) {
	x := newPair(t, lay(3, 10))
	for i := range api.MaxHeld {
		x.gives(push(3, b(10+i, 11+i)), answer{a: 11 + i})
	}
	for range 2 {
		x.refuses(api.ErrFull, push(3, b(34, 35)), push(3, b(34, most)))
		x.gives(push(3, b(33, 34)), answer{a: 34})
		x.refuses(api.ErrOrder, push(3, b(33, 35)))
		x.refuses(api.ErrLarge, push(3, sized(t, 34, 35, 0, api.MaxLaid+1)))
		x.anew()
	}
	x.do(pop(3, 10))
	x.refuses(api.ErrFull, push(3, b(34, 35)))
	x.do(pop(3, 11))
	x.gives(push(3, b(34, 35)), answer{a: 35})
	x.refuses(api.ErrFull, push(3, b(35, 36)))
	x.do(pop(3, 13))
	x.gives(push(3, b(35, 36)), answer{a: 36})
	x.gives(push(3, b(36, 37)), answer{a: 37})
	x.refuses(api.ErrFull, push(3, b(37, 38)))
	x.do(pop(3, 37))
	for i := range api.MaxHeld {
		x.gives(push(3, b(37+i, 38+i)), answer{a: 38 + i})
	}
	x.refuses(api.ErrFull, push(3, b(61, 62)))
}

// P16.3

func TestLock(t *testing.T) {
	list := []api.Batch{{Prev: 10, Version: 20, Known: 900}, {Prev: 20, Version: 30, Known: 3, Changes: []api.Change{{Kind: api.Put, Key: "a"}}}}
	x := newPair(t, lay(2, 10, list...), lay(3, 7), lay(4, 8))
	x.gives(lockAt(1, 2), answer{a: 10, b: 900, list: list})
	x.gives(lockAt(1, 9), answer{e: api.ErrNone})
	x.gives(live(2), answer{})
	x.gives(lockAt(2, 2), answer{a: 10, b: 900, list: list})
	x.gives(live(2), answer{})
	x.refuses(api.ErrLocked, lockAt(1, 2), lockAt(1, 0), lockAt(1, 9))
	x.gives(lockAt(3, 2), answer{a: 10, b: 900, list: list})
	x.refuses(api.ErrLocked, live(2), push(2, b(30, 40)), lay(2, 10, list...))
	x.gives(lockAt(3, 4), answer{a: 8}) // of one above the lock, too
	x.do(pop(2, 20))
	x.gives(lockAt(3, 2), answer{a: 20, b: 900, list: list[1:]})
	x.anew()
	x.gives(lockAt(3, 2), answer{a: 20, b: 900, list: list[1:]})
	x.do(pop(2, 30))
	x.gives(lockAt(3, 2), answer{a: 30, b: 900})
	x.gives(lockAt(8, 5), answer{e: api.ErrNone}) // the lock is there all the same
	x.refuses(api.ErrLocked, live(4), lockAt(7, 4), lay(7, 0))
	x.anew()
	x.refuses(api.ErrLocked, live(4), lockAt(7, 4), lay(7, 0))
	x.gives(lockAt(8, 4), answer{a: 8})
	x.gives(lockAt(9, 0), answer{e: api.ErrNone})
	x.refuses(api.ErrLocked, lockAt(8, 4))
}

func TestLive(t *testing.T) {
	x := newPair(t)
	x.refuses(api.ErrNone, live(1), live(2), live(most))
	x.do(lay(2, 10), lay(4, 10), lockAt(2, 2))
	x.refuses(api.OK, live(2), live(4))
	x.refuses(api.ErrNone, live(1), live(3), live(5))
	x.do(lockAt(3, 2))
	x.refuses(api.ErrLocked, live(2))
	x.refuses(api.OK, live(4))
	x.refuses(api.ErrNone, live(1), live(3), live(5))
	x.do(lockAt(4, 2))
	x.refuses(api.OK, live(4))
	x.do(lockAt(5, 2), retire(4))
	x.refuses(api.ErrNone, live(2))
	x.refuses(api.ErrLocked, live(4))
}

func TestPeek(t *testing.T) {
	list := row(10, 20, 30, 40, 50)
	x := newPair(t, lay(3, 10, list[:2]...), push(3, list[2]), push(3, list[3]))
	for version := 10; version <= 60; version++ {
		rest := list[min((version-10)/10, 4):]
		for _, n := range []int{0, 1, 2, 3, 4, 5, 100, most} {
			x.gives(peek(3, version, n), answer{b: 40, list: rest[:min(n, len(rest))]})
		}
	}
	x.refuses(api.ErrOld, peek(3, 9, 5), peek(3, 0, 0), peek(3, 0, most))
	x.do(pop(3, 35))
	x.refuses(api.ErrOld, peek(3, 29, 5), peek(3, 10, 5), peek(3, 29, 0))
	x.gives(peek(3, 30, most), answer{b: 40, list: list[2:]})
	x.gives(peek(3, 39, 1), answer{b: 40, list: list[2:3]})
	x.gives(peek(3, most, most), answer{b: 40})
	x.do(pop(3, 50), lockAt(9, 3)) // the lock does not matter
	x.gives(peek(3, 50, 5), answer{b: 40})
	x.refuses(api.ErrOld, peek(3, 49, 5))
	x.refuses(api.ErrNone, peek(2, 49, 5), peek(9, 0, 0))
}

// What is known is known, though its batch was popped, and behind each crash.
func TestKnown(t *testing.T) {
	x := newPair(t, lay(3, 10, api.Batch{Prev: 10, Version: 20, Known: 700}, api.Batch{Prev: 20, Version: 30, Known: 5}))
	look := func(base, known int) {
		t.Helper()
		for range 2 {
			x.gives(peek(3, 1000, 1), answer{b: known})
			list, _, _ := x.c.Peek(3, base, most)
			x.gives(lockAt(1, 3), answer{a: base, b: known, list: list})
			x.anew()
		}
	}
	look(10, 700)
	x.do(pop(3, 20))
	look(20, 700)
	x.do(push(3, api.Batch{Prev: 30, Version: 40, Known: 699}))
	look(20, 700)
	x.do(push(3, api.Batch{Prev: 40, Version: 50, Known: 800}), push(3, b(50, 60)))
	look(20, 800)
	x.do(pop(3, 50))
	look(50, 800)
	x.do(pop(3, 60))
	look(60, 800)
	x.do(push(3, api.Batch{Prev: 60, Version: 70, Known: 801}))
	look(60, 801)
}

func TestPop(t *testing.T) {
	list := row(10, 20, 30, 40)
	for version := 0; version <= 45; version++ {
		x := newPair(t, lay(3, 10, list[:2]...), lay(2, 10, list...), push(3, list[2]))
		if version > 40 {
			x.refuses(api.ErrNew, pop(3, version))
			continue
		}
		for range 2 {
			x.gives(pop(3, version), answer{})
			gone := max(version/10-1, 0)
			x.gives(lockAt(1, 3), answer{a: 10 + 10*gone, b: 30, list: list[gone:]})
			x.gives(peek(3, 10+10*gone, 9), answer{b: 30, list: list[gone:]})
			x.refuses(api.ErrNew, pop(3, 41), pop(3, most))
			x.anew()
		}
		x.gives(push(3, b(40, 50)), answer{a: 50}) // its top is as it was
		x.gives(pop(3, 45), answer{})
		x.gives(lockAt(1, 3), answer{a: 40, b: 40, list: row(40, 50)})
		x.gives(lockAt(1, 2), answer{a: 10, b: 30, list: list})
	}
	x := newPair(t, lay(3, 10))
	x.refuses(api.OK, pop(3, 10), pop(3, 9), pop(3, 0))
	x.refuses(api.ErrNew, pop(3, 11))
	x.refuses(api.ErrNone, pop(2, 0), pop(2, 11), pop(4, 10))
	x.do(lockAt(5, 3)) // the lock does not matter
	x.refuses(api.OK, pop(3, 10))
	x.refuses(api.ErrNew, pop(3, 11))
}

func TestRetire(t *testing.T) {
	for epoch := 1; epoch <= 10; epoch++ {
		x := newPair(t, busy()...)
		x.gives(retire(epoch), answer{})
		want := slices.DeleteFunc([]int{2, 3, 4, 9}, func(n int) bool { return n < epoch })
		for range 2 {
			if got := x.c.Epochs(); !slices.Equal(got, want) {
				t.Errorf("Retire(%d): %v, not %v", epoch, got, want)
			}
			x.gives(lockAt(3, 1), answer{e: api.ErrNone})
			x.refuses(api.ErrLocked, lockAt(2, 2), lay(2, 10)) // the lock is as it was
			x.refuses(api.OK, retire(epoch), retire(1))
			x.anew()
		}
	}
	x := newPair(t)
	x.refuses(api.OK, retire(1), retire(most))
}

// What is gone has no record any more: a tape that is not great is enough for any number of calls.
func TestGoneFromTape(t *testing.T) {
	p := tapeOf(t, 3000, nil)
	x := &pair{t: t, c: open(t, p), p: p, q: newPlain()}
	for i := range 400 {
		epoch := 1 + i/10
		if i%10 == 0 {
			x.do(lockAt(epoch, epoch), lay(epoch, i), retire(epoch))
		}
		x.do(push(epoch, sized(t, i, i+1, i, 600)), pop(epoch, i))
	}
}

// Two faults at once: the first one that the words name is told.
func TestTies(t *testing.T) {
	large, wrong := sized(t, 10, 20, 0, api.MaxLaid+1), unsound(10, 20)
	many := rowOf(10, api.MaxHeld+1)
	manyWrong := append(rowOf(10, api.MaxHeld), wrong)
	x := newPair(t, lay(2, 10), lay(4, 10, full()...), lay(5, 10, row(10, 20)...), push(5, b(20, 30)), pop(5, 20), lockAt(4, 2))
	for _, y := range []struct {
		e    api.Errno
		list []call
	}{
		{api.ErrArg, []call{ // a number ahead of all
			lay(2, -1), lay(4, -1, many...), lay(4, -1, wrong), lay(4, -1, large), lay(4, -1, b(10, 10)), lay(4, -1, b(10, 20)), lay(0, 10, full()...),
			push(0, b(10, 20)), push(-1, wrong), push(0, large), lockAt(2, -1), lockAt(4, -1), lockAt(0, 2), peek(3, -1, 1), peek(5, -1, 1), peek(5, 0, -1), peek(3, 0, -1), pop(3, -1), pop(0, 99),
		}},
		{api.ErrLocked, []call{ // Lay: the lock ahead of what is laid
			lay(2, 10, many...), lay(3, 10, many...), lay(2, 10, wrong), lay(3, 10, wrong), lay(2, 10, large), lay(3, 10, large), lay(3, 10, b(11, 20)), lay(2, 10, b(11, 20)), lay(2, 11), lay(2, 10),
		}},
		{api.ErrFull, []call{ // too many ahead of each one
			lay(4, 10, manyWrong...), lay(5, 10, manyWrong...), lay(6, 10, manyWrong...), lay(6, 10, slices.Repeat([]api.Batch{large}, api.MaxHeld+1)...), lay(6, 11, many...), lay(4, 10, many...), lay(4, 11, many...),
		}},
		{api.ErrForm, []call{ // each one, and whether they are a log, ahead of what was laid
			lay(4, 10, wrong), lay(4, 11, wrong), lay(6, 11, wrong), lay(6, 10, wrong, large), lay(6, 10, api.Batch{Prev: -1, Version: 20, Changes: large.Changes}), lay(4, 10, b(11, 20)), lay(5, 11, b(10, 20)),
		}},
		{api.ErrLarge, []call{lay(4, 10, large), lay(4, 11, large), lay(6, 11, large), lay(6, 10, large, wrong), lay(5, 10, large)}},
		{api.ErrClash, []call{lay(4, 10), lay(5, 11, b(11, 20)), lay(5, 10, row(10, 20, 30)...), lay(5, 20, b(20, 30))}},
		{api.ErrNone, []call{ // Push: whether there is a log ahead of the lock
			push(3, b(10, 20)), push(1, wrong), push(3, large), push(6, wrong), push(6, large), live(1), live(3), live(6), peek(3, 0, 5), pop(3, 99),
		}},
		{api.ErrLocked, []call{push(2, b(10, 20)), push(2, wrong), push(2, large), push(2, b(9, 10)), push(2, b(11, 20)), live(2), lockAt(3, 9), lockAt(3, 2), lockAt(1, 0)}},
		{api.ErrForm, []call{push(4, wrong), push(4, unsound(34, 35)), push(4, unsound(33, 35)), push(5, api.Batch{Prev: 30, Version: 40, Known: -1, Changes: large.Changes}), push(5, api.Batch{Prev: 29, Version: -1})}},
		{api.ErrLarge, []call{push(5, large), push(5, sized(t, 29, 40, 0, api.MaxLaid+1)), push(4, sized(t, 34, 35, 0, api.MaxLaid+1)), push(4, sized(t, 33, 35, 0, api.MaxLaid+1)), push(4, large)}},
		{api.ErrOrder, []call{push(4, b(33, 35)), push(4, b(35, 36)), push(5, b(29, 40))}},
		{api.ErrFull, []call{push(4, b(34, 35))}},
		{api.ErrOld, []call{peek(5, 19, 0), peek(5, 0, 9)}},
	} {
		x.refuses(y.e, y.list...)
	}
	x.gives(push(4, b(10, 34)), answer{a: 34}) // what is there already is, though there is no room for more
	x.gives(push(4, b(99, 34)), answer{a: 34})
}

// Room

// writes: calls that lay something down behind busy, by their names.
func writes() map[string]call {
	return map[string]call{
		"Lay of none":         lay(10, 5),
		"Lay":                 lay(10, 5, rowOf(5, 4)...),
		"Push":                push(9, b(1, 2)),
		"Push behind others":  push(4, b(11, 12)),
		"Lock":                lockAt(5, 4),
		"Lock of no log":      lockAt(500, 8),
		"Pop of a first one":  pop(9, 1),
		"Pop of another one":  pop(4, 11),
		"Retire of some":      retire(4),
		"Retire of all":       retire(10),
		"Pop where some were": pop(2, 60),
	}
}

// A tape without room: nothing is changed then, and whatever finds room still is laid down.
func TestNoRoom(t *testing.T) {
	for what, one := range writes() {
		x := newPair(t, busy()...)
		was := textOf(t, x.p)
		x.do(one)
		now := textOf(t, x.p)
		for _, room := range []int{len(was), len(now) - 1, len(now)} {
			if room < len(was) {
				continue
			}
			y := newPair(t, busy()...)
			y.p = tapeOf(t, room, was)
			y.c = open(t, y.p)
			if room >= len(now) {
				y.do(one)
				continue
			}
			before := y.q.view()
			if got := one.of(y.c).text(); got != (answer{e: api.ErrFull}).text() {
				t.Errorf("%s, room %d: %s", what, room, got)
			}
			if got := viewOf(y.c); got != before {
				t.Errorf("%s, room %d: %s; not %s", what, room, got, before)
			}
			stands(t, what, y.p, was)
			y.same(what)
			y.do(live(9), retire(9), one) // with room again
		}
	}
}

// No room for anything: what lays nothing down is as ever.
func TestRoomForNothing(t *testing.T) {
	p := tapeOf(t, 0, nil)
	x := &pair{t: t, c: open(t, p), p: p, q: newPlain()}
	for _, one := range []call{lay(1, 0), lay(1, 5, b(5, 6)), lockAt(1, 0), lockAt(1, 1)} {
		if got := one.of(x.c).text(); got != (answer{e: api.ErrFull}).text() {
			t.Errorf("%s: %s", one, got)
		}
		x.same("no room")
	}
	x.refuses(api.ErrNone, push(1, b(0, 1)), live(1), pop(1, 0), peek(1, 0, 0))
	x.refuses(api.OK, retire(5))
	x.refuses(api.ErrForm, lay(1, 0, unsound(0, 1)))
}

// handed: how much a call hands to it, by the document's count.
func handed(one call) int {
	out := 100
	for _, x := range one.list {
		text, _ := frame.PutBatch(x)
		out += len(text) + 20
	}
	return out
}

// As long as no more was handed to it than a fourth of the room it is not full; where it is, nothing is changed.
func TestRoom(t *testing.T) {
	pick := rand.New(rand.NewPCG(16, 3))
	for _, room := range []int{400, 800, 1600, 10000, 100000} {
		full := 0
		for range 30 {
			p := tapeOf(t, room, nil)
			x := &pair{t: t, c: open(t, p), p: p, q: newPlain()}
			sum := 0
			for range 150 {
				one := x.q.fits(t, pick)
				sum += handed(one)
				was := x.q.copied()
				want, got := one.ofPlain(x.q).text(), one.of(x.c).text()
				if got == want {
					continue
				}
				if got != (answer{e: api.ErrFull}).text() || sum*4 <= room {
					t.Fatalf("room %d, %d handed to it: %s: %s, not %s", room, sum, one, got, want)
				}
				x.q = was
				x.same(one.String())
				full++
			}
			x.same("all")
		}
		if full == 0 && room <= 1600 {
			t.Errorf("room %d was never too little", room)
		}
	}
}

// The most that may be handed to it without an error, all kept.
func TestRoomForMost(t *testing.T) {
	for room := 400; room <= 40000; room += 997 {
		p := tapeOf(t, room, nil)
		x := &pair{t: t, c: open(t, p), p: p, q: newPlain()}
		sum := 0
		for i := 0; ; i++ {
			epoch := most - i/8
			one := push(epoch, sized(t, most/2+i%8, most/2+i%8+1, most, 40+i))
			if i%8 == 0 {
				one = lay(epoch, most/2+1)
			}
			if i%8 == 7 {
				one = pop(epoch, most/2+3)
			}
			if sum += handed(one); sum*4 > room {
				break
			}
			x.do(one)
		}
	}
}

// P16.4

// downAll: does it answer ErrDown to all, faults among them, and keep what it was?
func downAll(t *testing.T, what string, c *Chest, was string) {
	t.Helper()
	list := []call{lay(4, -1), lay(4, 11), lay(6, 10, unsound(10, 20)), lay(6, 10, make([]api.Batch, 100)...), push(9, b(0, 1)), push(9, unsound(1, 2)), push(9, b(9, 99)), lockAt(1, 1), lockAt(9, -1), lockAt(9, 99), live(99), peek(2, 60, -1), peek(2, 0, 0), pop(2, 99), pop(2, -1)}
	for _, epoch := range []int{least, -1, 0, 1, 2, 3, 4, 9, 10, most} {
		list = append(list, oneOfEach(epoch)...)
	}
	for _, one := range list {
		if got := one.of(c).text(); got != (answer{e: api.ErrDown}).text() {
			t.Errorf("%s: %s: %s", what, one, got)
		}
	}
	if got := viewOf(c); got != was {
		t.Errorf("%s: %s; not %s", what, got, was)
	}
}

// A tape that goes down at a call of each kind: all behind it are ErrDown, ahead of the crash and behind it; a new Open finds what was, or what would have been, and goes on.
func TestDown(t *testing.T) {
	for what, one := range writes() {
		for after := range 3 {
			for _, keep := range []int{least, -1, 0, 1, 5, 17, 30, most} {
				for _, turn := range []byte{0, 1, 0x80} {
					x := newPair(t, busy()...)
					was := x.q.view()
					x.p.Fail(after)
					got := one.of(x.c)
					if got.e != api.ErrDown {
						if after == 0 || got.text() != one.ofPlain(x.q).text() {
							t.Fatalf("%s, after %d: %s", what, after, got.text())
						}
						continue
					}
					if got.text() != (answer{e: api.ErrDown}).text() {
						t.Errorf("%s: %s", what, got.text())
					}
					downAll(t, what, x.c, was)
					if d, e := Open(x.p); d != nil || e != api.ErrDown {
						t.Errorf("%s: Open of what is down: %v, %d", what, d, e)
					}
					x.p.Crash(keep, turn)
					downAll(t, what+", crashed", x.c, was)
					elder := x.c
					x.found(what, one)
					downAll(t, what+", the elder one", elder, was)
					x.do(one)
				}
			}
		}
	}
}

// found has the chest opened anew, behind a crash: it has to be what the plain one is, or what that would be behind one of some calls that were answered with ErrDown.
func (x *pair) found(what string, others ...call) {
	x.t.Helper()
	x.c = open(x.t, x.p)
	for _, one := range others {
		would := x.q.copied()
		one.ofPlain(would)
		if viewOf(x.c) == would.view() {
			x.q = would
		}
	}
	x.same(what)
}

// A tape that another's call brought down: the chest hears of it when it writes.
func TestDownByOther(t *testing.T) {
	for what, one := range writes() {
		x := newPair(t, busy()...)
		was := x.q.view()
		x.p.Fail(0)
		if e := x.p.Add(nil); e != api.ErrDown {
			t.Fatal(e)
		}
		for _, asks := range []call{live(4), live(2), peek(4, 8, 9), peek(4, 0, 9), lay(2, 10), lay(10, 5, unsound(5, 6)), push(9, unsound(1, 2))} {
			if want, got := asks.ofPlain(x.q).text(), asks.of(x.c).text(); got != want {
				t.Errorf("%s: %s: %s, not %s", what, asks, got, want)
			}
		}
		if got := one.of(x.c).text(); got != (answer{e: api.ErrDown}).text() {
			t.Errorf("%s: %s", what, got)
		}
		downAll(t, what, x.c, was)
		x.p.Crash(0, 0)
		x.found(what)
	}
}

// What changes nothing is not laid down, so a tape that would go down at that does not matter.
func TestNothingToWrite(t *testing.T) {
	x := newPair(t, busy()...)
	text := textOf(t, x.p)
	x.p.Fail(0)
	for _, one := range []call{
		lay(4, 7, row(7, 8, 9)...), lay(4, 7), lay(2, 10, row(10, 20, 30)...), lay(10, 5, b(6, 7)), push(4, b(9, 11)), push(4, b(0, 0)), push(2, b(60, 70)), push(4, b(10, 12)), lockAt(3, 2), lockAt(3, 99), lockAt(2, 2),
		live(4), peek(4, 8, 9), pop(4, 8), pop(4, 0), pop(3, 5), pop(4, 12), pop(99, 0), retire(1), retire(2),
	} {
		x.do(one)
		stands(t, one.String(), x.p, text)
	}
	x.do(lockAt(3, 9))
	if e := x.c.Retire(3); e != api.ErrDown {
		t.Errorf("Retire: %d", e)
	}
}

// A push whose bytes were all there, but not told to last: it may be there behind the crash.
func TestDownAtSync(t *testing.T) {
	for _, keep := range []int{0, most} {
		x := newPair(t, busy()...)
		x.p.Fail(1)
		one := push(9, b(1, 2))
		if got := one.of(x.c).text(); got != (answer{e: api.ErrDown}).text() {
			t.Fatal(got)
		}
		x.p.Crash(keep, 0)
		if keep == most {
			one.ofPlain(x.q)
		}
		x.found("Sync")
	}
}

// Ways of many calls of a tape that goes down now and then, with crashes of any kind.
func TestCrashes(t *testing.T) {
	pick := rand.New(rand.NewPCG(16, 4))
	fell := 0
	for range 120 {
		x := newPair(t)
		for range 120 {
			switch pick.IntN(8) {
			case 0:
				x.p.Fail(pick.IntN(6) - 1)
			case 1:
				x.p.Crash(pick.IntN(300)-1, byte(pick.IntN(3)))
				x.found("a crash")
			}
			one := x.q.fits(t, pick)
			was := x.q.view()
			got := one.of(x.c).text()
			if got == (answer{e: api.ErrDown}).text() {
				fell++
				downAll(t, one.String(), x.c, was)
				x.p.Crash(pick.IntN(300)-1, byte(pick.IntN(3)))
				x.found(one.String(), one)
				continue
			}
			if want := one.ofPlain(x.q).text(); got != want {
				t.Fatalf("%s: %s, not %s; it was %s", one, got, want, was)
			}
		}
	}
	if fell < 100 {
		t.Errorf("the tape went down %d times", fell)
	}
}

// Behind each number of calls, and a crash that keeps any number of bytes of the last one, Open finds what there was ahead of it or behind it.
func TestCrashAtEach(t *testing.T) {
	list := append(busy(), push(9, b(1, 2)), pop(9, 1), lay(10, 0), retire(4), lockAt(10, 10), push(10, b(0, 5)))
	for calls := range list {
		for after := range 2 {
			for keep := -1; keep < 60; keep++ {
				for _, turn := range []byte{0, 1} {
					x := newPair(t)
					for _, one := range list[:calls] {
						one.of(x.c)
						one.ofPlain(x.q)
					}
					x.p.Fail(after)
					one := list[calls]
					if got := one.of(x.c); got.e != api.ErrDown {
						one.ofPlain(x.q)
					}
					x.p.Crash(keep, turn)
					x.found(one.String(), one)
				}
			}
		}
	}
}

// Memory

// wide: batches in lists with spare room that is not empty.
func wide(list ...api.Batch) []api.Batch {
	out := make([]api.Batch, len(list), len(list)+2)
	for i, x := range list {
		out[i] = x
		out[i].Changes = make([]api.Change, len(x.Changes), len(x.Changes)+2)
		copy(out[i].Changes, x.Changes)
		spare := out[i].Changes[len(x.Changes):cap(out[i].Changes)]
		for j := range spare {
			spare[j] = api.Change{Kind: 71 + j, Key: "spare"}
		}
	}
	for i := range out[len(list):cap(out)] {
		out[len(list) : len(list)+i+1][i] = api.Batch{Prev: 71 + i}
	}
	return out
}

// turnAll: each batch of a list, and each of its changes, becomes another, with the spare room.
func turnAll(list []api.Batch) {
	for i := range list {
		changes := list[i].Changes[:cap(list[i].Changes)]
		for j := range changes {
			changes[j] = api.Change{Kind: 99, Key: "turned"}
		}
	}
	list = list[:cap(list)]
	for i := range list {
		list[i] = api.Batch{Prev: 99, Version: 98, Known: 97, Changes: []api.Change{{Kind: 99}}}
	}
}

// some: batches with changes.
func some() []api.Batch {
	list := row(10, 20, 30, 40)
	list[0].Changes = []api.Change{{Kind: api.Put, Key: "a", Value: "1"}, {Kind: api.Clear, Key: "b"}}
	list[2].Changes = []api.Change{{Kind: api.Wipe, Key: "c", Value: "d"}}
	return list
}

// What is handed in is neither changed nor kept, its spare room included.
func TestHandedIn(t *testing.T) {
	for _, plain := range [][]api.Batch{some(), nil, some()[:1], {unsound(10, 20)}, {b(11, 20)}} {
		x := newPair(t)
		list := wide(plain...)
		lay(3, 10, plain...).ofPlain(x.q)
		for range 2 { // kept, and held against what was laid
			x.c.Lay(3, 10, list...)
			if got, want := fmt.Sprint(list[:cap(list)]), fmt.Sprint(wide(plain...)[:len(plain)+2]); got != want {
				t.Errorf("what was handed in is now %s, not %s", got, want)
			}
			x.same("handed in")
		}
		for i := range list {
			if got, want := fmt.Sprint(list[i].Changes[:cap(list[i].Changes)]), fmt.Sprint(wide(plain...)[i].Changes[:len(plain[i].Changes)+2]); got != want {
				t.Errorf("changes that were handed in are now %s, not %s", got, want)
			}
		}
		turnAll(list)
		x.same("turned")
		x.do(lay(3, 10, plain...), push(3, b(40, 50)), pop(3, 20), lay(3, 10, plain...))
		x.anew()
	}
}

func TestHandedInToPush(t *testing.T) {
	x := newPair(t, lay(3, 10))
	for _, plain := range some() {
		list := wide(plain)
		if v, e := x.c.Push(3, list[0]); v != plain.Version || e != api.OK {
			t.Errorf("Push: %d, %d", v, e)
		}
		push(3, plain).ofPlain(x.q)
		if got, want := fmt.Sprint(list[0].Changes[:cap(list[0].Changes)]), fmt.Sprint(wide(plain)[0].Changes[:len(plain.Changes)+2]); got != want {
			t.Errorf("changes that were handed in are now %s, not %s", got, want)
		}
		turnAll(list)
		x.same("turned")
	}
	x.do(pop(3, 20))
	x.anew()
}

// What is answered is the caller's: nothing of it, nor of its spare room, is the chest's or another answer's.
func TestAnswered(t *testing.T) {
	for i := range 6 {
		x := newPair(t, lay(3, 10, some()[:2]...), push(3, some()[2]), lockAt(3, 3))
		for range 2 {
			var answers [][]api.Batch
			for _, one := range []call{peek(3, 10, most), peek(3, 10, most), lockAt(3, 3), lockAt(3, 3), peek(3, 10, 2), peek(3, 20, 9)} {
				answers = append(answers, one.of(x.c).list)
			}
			turnAll(answers[i])
			for j, list := range answers {
				want := some()
				switch j {
				case 4:
					want = want[:2]
				case 5:
					want = want[1:]
				}
				if j != i && !sameBatches(list, want) {
					t.Errorf("answer %d turned: answer %d is %v", i, j, list)
				}
			}
			x.same("turned")
			x.do(lay(3, 10, some()[:2]...))
			x.anew()
		}
		epochs := x.c.Epochs()
		epochs = epochs[:cap(epochs)]
		for j := range epochs {
			epochs[j] = 99
		}
		x.same("epochs turned")
	}
}

// What was answered may be handed in again.
func TestAnswerHandedIn(t *testing.T) {
	x := newPair(t, lay(3, 10, some()...))
	base, _, list, _ := x.c.Lock(3, 3)
	x.do(lockAt(3, 3), lay(4, base, some()...))
	if e := x.c.Lay(4, base, list...); e != api.OK {
		t.Error(e)
	}
	if e := x.c.Lay(5, base, list...); e != api.OK {
		t.Error(e)
	}
	turnAll(list)
	lay(5, base, some()...).ofPlain(x.q)
	x.same("its own")
}

// Lists that are nil and empty are the same.
func TestEmptyLists(t *testing.T) {
	with := []api.Batch{{Prev: 10, Version: 20, Changes: []api.Change{}}}
	without := []api.Batch{{Prev: 10, Version: 20}}
	x := newPair(t, lay(1, 10, with...), lay(2, 10, without...), lay(3, 10, []api.Batch{}...), lay(4, 10))
	for range 2 {
		x.refuses(api.OK, lay(1, 10, without...), lay(2, 10, with...), lay(3, 10), lay(4, 10, []api.Batch{}...))
		x.anew()
	}
}

func TestTwoChests(t *testing.T) {
	x, y := newPair(t, lay(3, 10, row(10, 20)...)), newPair(t, lay(3, 10, row(10, 20)...))
	x.p.Fail(0)
	if got := push(3, b(20, 30)).of(x.c).text(); got != (answer{e: api.ErrDown}).text() {
		t.Error(got)
	}
	y.do(push(3, b(20, 30)), lockAt(5, 3), pop(3, 20))
	x.p.Crash(0, 0)
	x.found("the one")
	y.same("the other")
}

// What the book of a chest has may be read by a book.
func TestBook(t *testing.T) {
	x := newPair(t, busy()...)
	k, e := book.Open(x.p)
	if e != api.OK || len(k.Records()) != x.q.records() {
		t.Errorf("%d, %d records", e, len(k.Records()))
	}
}
