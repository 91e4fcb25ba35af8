package referee

import (
	"fmt"
	"slices"
	"strings"
	"testing"

	"roundhouse/api"
	"roundhouse/frame"
)

// below: numbers that are below 0.
func below() []int { return []int{least, least + 1, -1000, -1} }

// grown: of epoch 5, begun at 1000, behind two batches; what stands at 1010 was written by the first one, at 1020 by the second one, which had all three verdicts.
func grown(t testing.TB) *pair {
	t.Helper()
	x := newPair(t, begin(5, 1000))
	x.gives(judge(5, 1000, 1010, writes(put("a", "1")), writes(wipe("c", "f"))), api.Fine, api.Fine)
	x.gives(judge(5, 1010, 1020, both(1009, single("d"), put("x", "1")), both(1010, single("d"), put("d", "1")), both(999, single("y"), put("x", "2"))), api.Clash, api.Fine, api.Late)
	return x
}

// ofGrown: the verdicts on grown's last batch.
func ofGrown() []int { return []int{api.Clash, api.Fine, api.Late} }

// isGrown: is it as grown is?
func (x *pair) isGrown() {
	x.t.Helper()
	x.same("grown")
	x.gives(judge(5, 1010, 1020), ofGrown()...)
	x.gives(judge(5, 1020, 1030,
		reads(1010, single("a"), of("c", "d"), of("d\x00", "f"), of("x", "z")),
		reads(1009, single("a")), reads(1019, single("d")), reads(1020, all())), api.Fine, api.Clash, api.Clash, api.Fine)
}

// P17.1

func TestNew(t *testing.T) {
	x := newPair(t)
	for _, epoch := range []int{least, -1, 0, 1, 2, most} {
		for _, prev := range []int{least, -1, 0, 1, most} {
			for _, version := range []int{least, -1, 0, 1, 5, most} {
				x.refuses(api.ErrNone, judge(epoch, prev, version), judge(epoch, prev, version, writes(put("a", "1"))), judge(epoch, prev, version, unsound()), judge(epoch, prev, version, many(5)...))
			}
		}
	}
	x.do(begin(1, 0))
	x.gives(judge(1, 0, 1, both(0, all(), put("a", "1")), reads(0, single("a"))), api.Fine, api.Clash)
}

func TestNil(t *testing.T) {
	var r *Referee
	for _, n := range []int{least, -1, 0, 1, 5, most} {
		for _, m := range []int{least, -1, 0, 1, 5, most} {
			if e := r.Begin(n, m); e != api.ErrArg {
				t.Errorf("Begin(%d, %d): %d", n, m, e)
			}
			for _, list := range [][]api.Txn{nil, {}, {writes(put("a", "1"))}, {unsound()}, many(4), many(5)} {
				for _, epoch := range []int{-1, 0, 1} {
					if l, e := r.Judge(epoch, n, m, list...); l != nil || e != api.ErrArg {
						t.Errorf("Judge(%d, %d, %d, %d): %v, %d", epoch, n, m, len(list), l, e)
					}
				}
			}
		}
	}
	if n, v := r.Ends(); n != 0 || v != 0 {
		t.Errorf("Ends: %d, %d", n, v)
	}
}

// One that New did not make is like one that it made.
func TestWithoutNew(t *testing.T) {
	x := &pair{t: t, r: new(Referee), p: &plain{}}
	x.same("new")
	x.refuses(api.ErrNone, judge(0, 0, 0), judge(0, 0, 1), judge(1, 0, 1))
	x.refuses(api.ErrArg, begin(0, 0), begin(1, -1))
	x.do(begin(2, 7))
	x.gives(judge(2, 7, 8, writes(put("a", ""))), api.Fine)
	x.gives(judge(2, 8, 9, reads(7, single("a")), reads(6, single("b"))), api.Clash, api.Late)
}

// What is asked of the one is not asked of the other.
func TestTwo(t *testing.T) {
	one, two := newPair(t, begin(3, 10)), newPair(t)
	two.refuses(api.ErrNone, judge(3, 10, 11))
	two.do(begin(3, 10))
	one.gives(judge(3, 10, 11, writes(wipe("a", "z"))), api.Fine)
	two.same("the other one's Judge")
	two.refuses(api.ErrOrder, judge(3, 11, 12), judge(3, 10, 10))
	two.gives(judge(3, 10, 20, both(10, all(), put("b", ""))), api.Fine)
	one.gives(judge(3, 11, 12, reads(10, of("z", "~")), reads(10, single("c")), reads(11, all())), api.Fine, api.Clash, api.Fine)
	one.do(begin(4, 0))
	two.gives(judge(3, 20, 21, reads(19, single("c")), reads(19, single("b"))), api.Fine, api.Clash)
}

func TestBeginFirst(t *testing.T) {
	for _, epoch := range []int{1, 2, 3, 1 << 40, most - 1, most} {
		for _, version := range []int{0, 1, 99, 100, 101, 1000, api.Last, most - 1, most} {
			x := newPair(t)
			for _, n := range append(below(), 0) {
				x.refuses(api.ErrArg, begin(n, version), begin(n, least), begin(n, -1))
			}
			for _, n := range below() {
				x.refuses(api.ErrArg, begin(epoch, n))
			}
			x.refuses(api.ErrNone, judge(0, 0, 1), judge(epoch, version, version), judge(epoch, 0, 1))
			x.do(begin(epoch, version))
			x.refuses(api.ErrOrder, judge(epoch, version, version))
			if version == most {
				continue
			}
			verdicts := []int{api.Fine, api.Fine, api.Fine}
			list := []api.Txn{both(version, all(), put("a", "")), reads(version, of("b", "z")), reads(0)}
			if version > 0 {
				verdicts, list = append(verdicts, api.Late), append(list, reads(version-1, single("c")))
			}
			x.gives(judge(epoch, version, version+1, list...), verdicts...)
		}
	}
}

// What Begin is asked for of its own epoch, or of an elder one, is nothing to it; with what is wrong as well.
func TestBeginOwnOrElder(t *testing.T) {
	for _, version := range []int{0, 1, 999, 1000, 1001, 1010, 1019, 1020, 1021, 5000, most} {
		x := grown(t)
		x.do(begin(5, version), begin(5, version))
		x.isGrown()
		x = grown(t)
		x.refuses(api.ErrOld, begin(4, version), begin(3, version), begin(1, version))
		for _, epoch := range append(below(), 0) {
			x.refuses(api.ErrArg, begin(epoch, version))
		}
		x.isGrown()
		x = newPair(t, begin(5, 1000), begin(5, version)) // no batch was judged
		x.refuses(api.ErrOld, begin(4, version))
		x.gives(judge(5, 1000, 1001, reads(999, single("a")), reads(1000, single("a"))), api.Late, api.Fine)
	}
	for _, version := range below() {
		x := grown(t)
		for _, epoch := range []int{least, -1, 0, 1, 4, 5, 6, most} {
			x.refuses(api.ErrArg, begin(epoch, version))
		}
		x.isGrown()
	}
}

// Behind a later epoch's Begin nothing is known of an elder one, wherever its versions were.
func TestBeginLater(t *testing.T) {
	for _, epoch := range []int{6, 7, 100, most} {
		for _, version := range []int{0, 1, 999, 1000, 1001, 1009, 1010, 1015, 1020, 1021, 1120, 5000, most - 1} {
			x := grown(t)
			x.do(begin(epoch, version))
			x.refuses(api.ErrNone, judge(5, 1010, 1020), judge(5, 1020, 1030), judge(5, version, version+1), judge(0, version, version+1), judge(epoch-1, version, version+1))
			x.refuses(api.ErrOld, begin(5, 1020), begin(5, version), begin(epoch-1, version))
			x.refuses(api.ErrOrder, judge(epoch, version, version), judge(epoch, 1010, version), judge(epoch, version-1, version+1))
			if version > 0 {
				x.refuses(api.ErrOld, judge(epoch, version-1, version-1), judge(epoch, 1010, version-1))
			}
			x.do(begin(epoch, 3))
			x.gives(judge(epoch, version, version+1, both(version, all(), put("a", "")), reads(max(0, version-1), single("z"))), api.Fine, either(version > 0, api.Late, api.Fine))
			x.refuses(api.ErrNone, judge(5, version, version+1), judge(5, 1010, 1020))
		}
	}
}

// either: the one, if it is so, else the other.
func either(so bool, one, other int) int {
	if so {
		return one
	}
	return other
}

// Epochs of which no batch was judged are passed over.
func TestBeginOnAndOn(t *testing.T) {
	x := newPair(t)
	for epoch := 1; epoch < 30; epoch++ {
		version := (epoch * 37) % 101
		x.do(begin(epoch, version), begin(epoch, version+1))
		x.refuses(api.ErrOrder, judge(epoch, version, version))
		if epoch%3 == 0 {
			x.gives(judge(epoch, version, version+5, writes(wipe("a", "z"))), api.Fine)
		}
		if epoch%6 == 0 {
			x.gives(judge(epoch, version+5, version+6, reads(version, single("m")), reads(version+5, single("m"))), api.Clash, api.Fine)
		}
	}
}

func TestEnds(t *testing.T) {
	r := New()
	is := func(epoch, version int) {
		t.Helper()
		if n, v := r.Ends(); n != epoch || v != version {
			t.Errorf("Ends: %d, %d; not %d, %d", n, v, epoch, version)
		}
	}
	is(0, 0)
	r.Judge(0, 0, 1)
	r.Begin(0, 5)
	is(0, 0)
	r.Begin(2, 50)
	is(2, 50)
	r.Begin(2, 60)
	r.Begin(1, 70)
	is(2, 50)
	r.Judge(2, 50, 55)
	is(2, 55)
	r.Judge(2, 50, 55)
	r.Judge(2, 50, 60)
	r.Judge(2, 55, 54)
	r.Judge(2, 55, 60, unsound())
	is(2, 55)
	r.Judge(2, 55, most)
	is(2, most)
	r.Begin(9, 7)
	is(9, 7)
	r.Begin(most, 0)
	is(most, 0)
}

// P17.2

func TestEpochs(t *testing.T) {
	x := grown(t)
	for _, epoch := range []int{least, -5, -1, 0, 1, 4, 6, 7, most} {
		for _, version := range []int{least, -1, 0, 1000, 1010, 1019, 1020, 1021, 1030, most} {
			for _, prev := range []int{least, 0, 1010, 1020, most} {
				x.refuses(api.ErrNone, judge(epoch, prev, version), judge(epoch, prev, version, writes(put("q", ""))), judge(epoch, prev, version, unsound()), judge(epoch, prev, version, many(5)...))
			}
		}
	}
	x.isGrown()
}

// lists: all sorts of them.
func lists() [][]api.Txn {
	return [][]api.Txn{
		nil, {}, {{}}, many(1), many(4), many(5), many(100),
		{unsound()}, {writes(put("q", "")), unsound()},
		{both(1009, single("d"), put("x", "1")), both(1010, single("d"), put("d", "1")), both(999, single("y"), put("x", "2"))},
		{reads(1020, all()), writes(wipe(all().From, all().To)), reads(0, single("a"))},
		{writes(put("q", "")), writes(put("r", "")), writes(put("s", "")), writes(put("t", ""))},
	}
}

// The last batch again: the verdicts stand, whatever else is asked, and nothing is written.
func TestAgain(t *testing.T) {
	for _, list := range lists() {
		x := grown(t)
		for _, prev := range []int{1010, 1020, 1000, 0, -1, least, most, 1009, 1011, 1019, 1021} {
			x.gives(judge(5, prev, 1020, list...), ofGrown()...)
		}
		x.isGrown()
		x.gives(judge(5, 1, 1030, list...), api.Fine, api.Clash, api.Clash, api.Fine)
		x.refuses(api.ErrOld, judge(5, 1010, 1020, list...))
	}
}

// So it is behind what was refused, and behind Begin of its own epoch.
func TestAgainBehindFaults(t *testing.T) {
	x := grown(t)
	for _, list := range lists() {
		x.refuses(api.ErrOld, judge(5, 1020, 1019, list...))
		x.refuses(api.ErrOrder, judge(5, 1019, 1030, list...), judge(5, 1021, 1030, list...))
		x.refuses(api.ErrNone, judge(6, 1020, 1030, list...))
		x.gives(judge(5, 1020, 1020, list...), ofGrown()...)
	}
	x.refuses(api.ErrForm, judge(5, 1020, 1030, unsound()))
	x.do(begin(5, 3000))
	x.refuses(api.ErrOld, begin(1, 3000))
	x.refuses(api.ErrArg, begin(0, 3000))
	x.isGrown()
}

// A batch that had no transactions has no verdicts, whatever is asked again.
func TestAgainNone(t *testing.T) {
	for _, list := range lists() {
		x := grown(t)
		x.gives(judge(5, 1020, 1030))
		x.gives(judge(5, 1020, 1030, list...))
		x.gives(judge(5, 1030, 1030, list...))
		x.gives(judge(5, 1030, 1040, reads(1019, single("d")), reads(1020, all())), api.Clash, api.Fine)
		x = newPair(t, begin(1, 0), judge(1, 0, 7))
		x.gives(judge(1, 0, 7, list...))
		x.gives(judge(1, 7, 8, reads(0, all())), api.Fine)
	}
}

// Up to where it has judged without a batch there are no verdicts.
func TestFirst(t *testing.T) {
	for _, version := range []int{0, 1, 5, 1000, api.Last, most} {
		for _, list := range lists() {
			x := newPair(t, begin(4, version))
			for _, prev := range []int{least, -1, 0, version - 1, version, version / 2, most} {
				x.refuses(api.ErrOrder, judge(4, prev, version, list...))
			}
			for _, n := range []int{least, -1, 0, version / 2, version - 1} {
				if n < version {
					x.refuses(api.ErrOld, judge(4, version, n, list...), judge(4, n, n, list...), judge(4, 0, n, list...))
				}
			}
		}
	}
}

func TestElder(t *testing.T) {
	x := grown(t)
	for _, version := range []int{least, least + 1, -1, 0, 1, 999, 1000, 1001, 1009, 1010, 1011, 1019} {
		for _, prev := range []int{least, -1, 0, 1000, 1010, 1019, 1020, 1021, most} {
			for _, list := range lists() {
				x.refuses(api.ErrOld, judge(5, prev, version, list...))
			}
		}
	}
	x.isGrown()
}

func TestOrder(t *testing.T) {
	x := grown(t)
	for _, prev := range []int{least, -1021, -1020, -1, 0, 1, 1000, 1010, 1019, 1021, 1030, 1040, most} {
		for _, version := range []int{1021, 1029, 1030, 1031, 2000, most - 1, most} { // above its prev, at it, and below
			for _, list := range lists() {
				x.refuses(api.ErrOrder, judge(5, prev, version, list...))
			}
		}
	}
	x.isGrown()
	for _, version := range []int{1021, 1022, 1030, 1120, 1121, most - 1, most} {
		x := grown(t)
		x.gives(judge(5, 1020, version, reads(1019, single("d"))), api.Clash)
	}
}

// wrong: transactions that are not sound.
func wrong() []api.Txn {
	long := func(n int) string { return strings.Repeat("k", n) }
	out := []api.Txn{
		{Read: -1}, {Read: least}, unsound(), both(-1, all()), reads(1020, of("b", "a")), reads(1020, single("a"), of("b", "a")),
		reads(1020, of("", long(api.MaxKey+2))), reads(1020, make([]api.Span, api.MaxParts+1)...),
		writes(slices.Repeat([]api.Change{put("a", "")}, api.MaxParts+1)...),
	}
	for _, c := range []api.Change{{}, {Kind: 4, Key: "a"}, {Kind: -1}, put(long(api.MaxKey+1), ""), put("a", long(api.MaxValue+1)), {Kind: api.Clear, Key: "a", Value: "1"}, wipe("b", "a")} {
		out = append(out, writes(c), writes(put("a", ""), c), both(1020, all(), c, put("a", "")))
	}
	return out
}

// A list with one that is not sound is not judged, wherever that stands; and what is judged behind it is so as if it had not been.
func TestUnsound(t *testing.T) {
	good := writes(wipe("a", "z"))
	for _, bad := range wrong() {
		if _, e := frame.PutTxn(bad); e != api.ErrForm {
			t.Fatalf("PutTxn(%v): %d", bad, e)
		}
		x := grown(t)
		for _, list := range [][]api.Txn{{bad}, {bad, good}, {good, bad}, {good, bad, good}, {good, good, good, bad}, {bad, good, good, good}, {bad, bad, bad, bad}, {bad, bad, bad, bad, bad}} {
			for _, version := range []int{1021, 1030, 2000, most} {
				if l, e := x.r.Judge(5, 1020, version, list...); l != nil || e != api.ErrForm {
					t.Errorf("Judge(%v): %v, %d", list, l, e)
				}
				x.same("unsound")
			}
		}
		x.isGrown()
		x = newPair(t, begin(2, 50))
		if l, e := x.r.Judge(2, 50, 60, good, bad); l != nil || e != api.ErrForm {
			t.Errorf("Judge(%v): %v, %d", bad, l, e)
		}
		x.refuses(api.ErrOrder, judge(2, 50, 50), judge(2, 60, 60), judge(2, 60, 70))
		x.gives(judge(2, 50, 60, reads(49, single("b")), reads(50, single("b"))), api.Late, api.Fine)
	}
}

func TestHowMany(t *testing.T) {
	for n := range api.MaxBatch + 4 {
		x := grown(t)
		if n > api.MaxBatch {
			x.refuses(api.ErrForm, judge(5, 1020, 1030, many(n)...), judge(5, 1020, 1030, make([]api.Txn, n)...))
			x.isGrown()
			continue
		}
		want := slices.Repeat([]int{api.Fine}, n)
		x.gives(judge(5, 1020, 1030, many(n)...), want...)
		x.gives(judge(5, 1020, 1030, make([]api.Txn, 9)...), want...)
		x.gives(judge(5, 1030, 1040, reads(1029, single("many")), reads(1030, all())), either(n > 0, api.Clash, api.Fine), api.Fine)
	}
	for _, list := range [][]api.Txn{nil, {}} { // no transactions: nil or not
		x := newPair(t, begin(1, 0), judge(1, 0, 1, list...))
		x.gives(judge(1, 0, 1, many(3)...))
		x.gives(judge(1, 1, 2, many(1)...), api.Fine)
	}
}

// The words' verdicts, at what was written and ahead of it, at the floor and below.
func TestVerdicts(t *testing.T) {
	for _, c := range []struct {
		x    api.Txn
		want int
	}{
		{api.Txn{}, api.Fine}, {reads(0), api.Fine}, {reads(most), api.Fine},
		{reads(1000, single("a")), api.Clash}, {reads(1009, single("a")), api.Clash}, {reads(1010, single("a")), api.Fine}, {reads(1011, single("a")), api.Fine}, {reads(most, single("a")), api.Fine},
		{reads(999, single("a")), api.Late}, {reads(0, single("a")), api.Late}, {reads(999, of("", "")), api.Late}, {reads(1000, of("a", "a")), api.Fine},
		{reads(1000, of("", "a")), api.Fine}, {reads(1000, of("a\x00", "c")), api.Fine}, {reads(1000, of("a\x00", "c\x00")), api.Clash}, {reads(1000, of("f", "~")), api.Fine},
		{reads(1010, of("c", "d")), api.Fine}, {reads(1010, of("c", "d\x00")), api.Clash}, {reads(1019, of("d", "f")), api.Clash}, {reads(1020, all()), api.Fine},
		{reads(1000, single("x"), single("y")), api.Fine}, // what clashed, and what was late, wrote nothing
		{reads(1000, single("x"), single("y"), single("e")), api.Clash},
		{both(1019, single("d"), put("d", "")), api.Clash}, {both(1020, single("d"), put("d", "")), api.Fine}, {writes(put("d", ""), wipe("a", "z")), api.Fine},
	} {
		x := grown(t)
		x.gives(judge(5, 1020, 1030, c.x), c.want)
		x = grown(t)
		x.gives(judge(5, 1020, 1030, c.x, reads(1020, single("d"))), c.want, either(c.want == api.Fine && len(c.x.Changes) > 0, api.Clash, api.Fine))
	}
}

// Keys that were written ahead of the version, more than Window, just so much, and less: who read ahead of that is late only where it is forgotten.
func TestWindow(t *testing.T) {
	for _, base := range []int{0, 1, 60, 99, 100, 101, 1000, api.Last} {
		for _, first := range []int{1, 2, 30, 100, 101} {
			for by := 1; by < 130; by++ {
				written, top := base+first, base+first+by
				start := func() *pair {
					x := newPair(t, begin(1, base), judge(1, base, written, writes(put("a", ""))))
					// The floor rises behind the batch alone.
					x.gives(judge(1, written, top, reads(max(base, written-100), single("b"))), api.Fine)
					return x
				}
				floor := max(base, top-100)
				x := start()
				x.gives(judge(1, top, top+1, reads(written-1, single("a")), reads(written, single("a")), reads(floor, single("b")), reads(max(0, floor-1), single("b"))),
					either(written-1 < floor, api.Late, api.Clash), either(written < floor, api.Late, api.Fine), api.Fine, either(floor > 0, api.Late, api.Fine))
				if n := x.r.marks.Size(); n != either(written > max(base, top+1-100), 1, 0) {
					t.Errorf("%d, %d, %d: %d marks", base, first, by, n)
				}
			}
		}
	}
}

// The first batch, too, has the floor rise behind it; a version less Window that is below 0 is not one.
func TestWindowFirst(t *testing.T) {
	for _, base := range []int{0, 1, 50, 1000} {
		for by := 1; by < 250; by++ {
			x := newPair(t, begin(1, base))
			top := base + by
			list := []api.Txn{both(base, all(), put("a", "")), reads(base, single("b")), reads(max(0, base-1), single("b"))}
			x.gives(judge(1, base, top, list...), api.Fine, api.Fine, either(base > 0, api.Late, api.Fine))
			floor := max(base, top-100)
			x.gives(judge(1, top, top+1, reads(floor, single("b")), reads(max(0, floor-1), single("b")), reads(top-1, single("a")), reads(top, single("a"))),
				api.Fine, either(floor > 0, api.Late, api.Fine), api.Clash, api.Fine)
		}
	}
}

// Many batches, each with a key of its own: at each version all that were written are asked.
func TestManyBatches(t *testing.T) {
	const steps = 60
	key := func(i int) string { return fmt.Sprintf("k%03d", i) }
	r := New()
	r.Begin(8, 500)
	version := 500
	ask := func(read, i, want int) {
		t.Helper()
		l, e := r.Judge(8, version, version+1, reads(read, single(key(i))))
		version++
		if e != api.OK || !slices.Equal(l, []int{want}) {
			t.Fatalf("%d: read at %d what was written at step %d: %v, %d, not %d", version, read, i, l, e, want)
		}
	}
	var written []int
	for i := range steps {
		l, e := r.Judge(8, version, version+api.Step, writes(put(key(i), "")))
		if e != api.OK || !slices.Equal(l, []int{api.Fine}) {
			t.Fatalf("%d: %v, %d", i, l, e)
		}
		version += api.Step
		written = append(written, version)
		if i%8 != 7 {
			continue
		}
		for j, at := range written {
			for _, read := range []int{at - 1, at, version - 100} {
				floor := max(500, version-100)
				want := api.Fine
				if read < floor {
					want = api.Late
				} else if at > read {
					want = api.Clash
				}
				ask(max(read, 0), j, want)
			}
		}
	}
	if n := r.marks.Size(); n > 11 {
		t.Errorf("%d marks are kept", n)
	}
}

// Of answers that both apply the first one is told.
func TestTies(t *testing.T) {
	bad := [][]api.Txn{{unsound()}, many(5), {unsound(), unsound(), unsound(), unsound(), unsound()}}
	for _, list := range bad {
		x := grown(t)
		x.refuses(api.ErrNone, judge(4, 1010, 1020, list...), judge(4, 1020, 1019, list...), judge(4, 1019, 1030, list...), judge(4, 1020, 1030, list...), judge(0, 1020, 1030, list...))
		x.gives(judge(5, 1020, 1020, list...), ofGrown()...) // ahead of ErrOrder and ErrForm
		x.gives(judge(5, 7, 1020, list...), ofGrown()...)
		x.refuses(api.ErrOld, judge(5, 1020, 1019, list...), judge(5, 1010, 1019, list...), judge(5, most, least, list...))
		x.refuses(api.ErrOrder, judge(5, 1019, 1030, list...), judge(5, 1021, 1021, list...), judge(5, 1025, 1021, list...), judge(5, most, 1030, list...))
		x.refuses(api.ErrForm, judge(5, 1020, 1030, list...))
		x.isGrown()
		x = newPair(t)
		x.refuses(api.ErrNone, judge(0, 0, 0, list...), judge(0, 0, -1, list...), judge(0, 1, 2, list...), judge(0, 0, 1, list...), judge(1, 0, 0, list...))
		x.do(begin(1, 7))
		x.refuses(api.ErrOrder, judge(1, 7, 7, list...), judge(1, 6, 7, list...), judge(1, 8, 8, list...))
		x.refuses(api.ErrOld, judge(1, 7, 6, list...), judge(1, 6, 6, list...))
		x.refuses(api.ErrForm, judge(1, 7, 8, list...))
	}
	x := grown(t)
	for _, version := range below() {
		x.refuses(api.ErrArg, begin(4, version), begin(5, version), begin(6, version), begin(0, version), begin(-1, version)) // ahead of ErrOld, and of its own epoch
	}
	x.refuses(api.ErrArg, begin(0, 1020), begin(-1, 1020), begin(least, 0))
	x.isGrown()
}

func TestNumbers(t *testing.T) {
	x := newPair(t, begin(most, most))
	x.refuses(api.ErrOrder, judge(most, most, most), judge(most, 0, most), judge(most, least, most))
	x.refuses(api.ErrOld, judge(most, most, most-1), judge(most, most, least), begin(most-1, 0), begin(1, most))
	x.refuses(api.ErrNone, judge(least, most, most), judge(most-1, most, most))
	x.refuses(api.ErrArg, begin(least, least), begin(most, least))
	x.do(begin(most, 0))

	x = newPair(t, begin(1, 0))
	x.gives(judge(1, 0, most, both(0, all(), put("a", "")), reads(0, single("a"))), api.Fine, api.Clash)
	x.gives(judge(1, 0, most, many(9)...), api.Fine, api.Clash)
	x.refuses(api.ErrOld, judge(1, most, most-1), judge(1, most, 0), judge(1, most, least))
	x.do(begin(2, most-101))
	x.gives(judge(2, most-101, most-1, writes(put("a", ""))), api.Fine)
	x.gives(judge(2, most-1, most, reads(most-101, single("a")), reads(most-102, single("b")), reads(most-2, single("a")), reads(most-1, single("a"))), api.Clash, api.Late, api.Clash, api.Fine)
	x.gives(judge(2, most, most, many(9)...), api.Clash, api.Late, api.Clash, api.Fine)
}

// Memory

// turn changes all that a list of transactions has, the spare room of its lists included.
func turn(list []api.Txn) {
	list = list[:cap(list)]
	for i, x := range list {
		for j := range x.Reads[:cap(x.Reads)] {
			x.Reads[:cap(x.Reads)][j] = of("!", "~")
		}
		for j := range x.Changes[:cap(x.Changes)] {
			x.Changes[:cap(x.Changes)][j] = put("!", "!")
		}
		list[i] = unsound()
	}
}

// What who gave transactions does with them is nothing to it; nor does it turn them, or the spare room of their lists.
func TestHandedIn(t *testing.T) {
	given := func() []api.Txn {
		spans := []api.Span{single("a"), of("m", "p"), of("r", "s")}
		changes := []api.Change{wipe("h", "k"), put("b", "1"), clearOf("a"), put("e", "")}
		return []api.Txn{
			{Read: 1020, Reads: spans[:2], Changes: changes[:3]},
			{Read: 1000, Reads: []api.Span{all()}, Changes: []api.Change{put("z", "")}},
			writes(put("w", "")),
			writes(put("spare", "")),
		}
	}
	x := grown(t)
	list := given()
	l, e := x.r.Judge(5, 1020, 1030, list[:3]...)
	if !slices.Equal(l, []int{api.Fine, api.Clash, api.Fine}) || e != api.OK {
		t.Fatalf("%v, %d", l, e)
	}
	again := func() {
		t.Helper()
		if l, e := x.r.Judge(5, 1020, 1030, list...); !slices.Equal(l, []int{api.Fine, api.Clash, api.Fine}) || e != api.OK {
			t.Errorf("again: %v, %d", l, e)
		}
	}
	again()
	if x.r.Judge(5, 1020, 1029, list...); fmt.Sprint(list) != fmt.Sprint(given()) {
		t.Errorf("what was handed in is now %v", list)
	}
	if list[0].Reads[:3][2] != of("r", "s") || list[0].Changes[:4][3] != put("e", "") {
		t.Errorf("the spare room of what was handed in is now %v, %v", list[0].Reads[:3], list[0].Changes[:4])
	}
	turn(list)
	again()
	l, e = x.r.Judge(5, 1030, 1040, reads(1029, single("h")), reads(1029, single("w")), reads(1020, of("!", "a"), of("x", "~")), reads(1020, of("c", "h")))
	if !slices.Equal(l, []int{api.Clash, api.Clash, api.Fine, api.Fine}) || e != api.OK {
		t.Errorf("behind what was turned: %v, %d", l, e)
	}
	for _, y := range list {
		if fmt.Sprint(y) != fmt.Sprint(unsound()) {
			t.Errorf("what was handed in is now %v", list)
		}
	}
}

// What was answered is the caller's: to turn it, or its spare room, is nothing to what is answered again, nor to another answer.
func TestAnswers(t *testing.T) {
	x := grown(t)
	var answers [][]int
	give := func(version int) {
		t.Helper()
		_, was := x.r.Ends()
		l, e := x.r.Judge(5, was, version, reads(1020, all()), reads(1019, all()), reads(999, all()))
		if e != api.OK || !slices.Equal(l, []int{api.Fine, api.Clash, api.Late}) {
			t.Fatalf("%d: %v, %d; behind %v", version, l, e, answers)
		}
		answers = append(answers, l)
	}
	spoil := func() {
		for _, l := range answers {
			for i := range l[:cap(l)] {
				l[:cap(l)][i] = 99
			}
		}
	}
	for version := 1030; version < 1040; version++ {
		for range 4 {
			give(version)
			spoil()
		}
		give(version)
		give(version)
	}
	for i, l := range answers[len(answers)-2:] { // not turned yet, beside others that were
		if !slices.Equal(l, []int{api.Fine, api.Clash, api.Late}) {
			t.Errorf("%d: %v", i, l)
		}
	}
	spoil()
	for i := range answers { // no two share
		for j, l := range answers {
			for k := range l[:cap(l)] {
				l[:cap(l)][k] = j
			}
		}
		if l := answers[i]; slices.ContainsFunc(l[:cap(l)], func(n int) bool { return n != i }) {
			t.Errorf("%d shares with another one: %v", i, l)
		}
	}
	give(1039)
}

// An answer that was had ahead of the next batch, or of a later epoch, stays what it was.
func TestAnswersStay(t *testing.T) {
	x := grown(t)
	first, _ := x.r.Judge(5, 1010, 1020)
	x.do(judge(5, 1020, 1030, many(4)...), judge(5, 1030, 1040, many(2)...), begin(6, 0), judge(6, 0, 1, many(3)...))
	if !slices.Equal(first, ofGrown()) {
		t.Errorf("an answer is now %v", first)
	}
}

// The same calls give the same answers.
func TestSameAgain(t *testing.T) {
	for range 20 {
		grown(t).isGrown()
	}
}
