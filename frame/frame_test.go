package frame

import (
	"bytes"
	"encoding/binary"
	"hash/crc32"
	"math"
	"reflect"
	"slices"
	"strings"
	"testing"

	"roundhouse/api"
)

func set(key, value string) api.Change { return api.Change{Kind: api.Put, Key: key, Value: value} }

func clr(key string) api.Change { return api.Change{Kind: api.Clear, Key: key} }

func rub(from, to string) api.Change { return api.Change{Kind: api.Wipe, Key: from, Value: to} }

func of(from, to string) api.Span { return api.Span{From: from, To: to} }

// long: a text of so many bytes.
func long(n int) string { return strings.Repeat("k", n) }

// end: the longest end of a span.
func end() string { return long(api.MaxKey) + "\x00" }

// What bytes have to be, as plainly as the words have it; code and casta have no part in it.

func number(n int) string { return string(binary.AppendUvarint(nil, uint64(n))) }

func numbers(list ...int) string {
	out := ""
	for _, n := range list {
		out += number(n)
	}
	return out
}

func text(s string) string { return number(len(s)) + s }

func sealed(s string) string {
	sum := crc32.Checksum([]byte(s), crc32.MakeTable(crc32.Castagnoli))
	return string(binary.LittleEndian.AppendUint32(nil, sum)) + s
}

func messageInside(m api.Message) string {
	return numbers(m.Kind, m.From, m.To, m.Epoch, m.A, m.B, m.C) + text(string(m.Body))
}

func messageBytes(m api.Message) string { return sealed(messageInside(m)) }

func changesBytes(list []api.Change) string {
	var out strings.Builder
	out.WriteString(number(len(list)))
	for _, c := range list {
		out.WriteString(number(c.Kind) + text(c.Key) + text(c.Value))
	}
	return out.String()
}

func txnBytes(x api.Txn) string {
	out := number(x.Read) + number(len(x.Reads))
	for _, s := range x.Reads {
		out += text(s.From) + text(s.To)
	}
	return out + changesBytes(x.Changes)
}

func batchBytes(x api.Batch) string {
	return numbers(x.Prev, x.Version, x.Known) + changesBytes(x.Changes)
}

func stateBytes(s api.State) string {
	return numbers(s.Generation, s.Epoch, s.Recovered, len(s.Chests)) + numbers(s.Chests...)
}

// calls: a pair of calls, and what they have to do.
type calls[T any] struct {
	name  string
	put   func(T) ([]byte, api.Errno)
	get   func([]byte) (T, api.Errno)
	bytes func(T) string
	same  func(a, b T) bool
}

func ofMessages() calls[api.Message] {
	same := func(a, b api.Message) bool {
		body := bytes.Equal(a.Body, b.Body)
		a.Body, b.Body = nil, nil
		return body && reflect.DeepEqual(a, b)
	}
	return calls[api.Message]{"message", Encode, Decode, messageBytes, same}
}

func ofTxns() calls[api.Txn] {
	same := func(a, b api.Txn) bool {
		return a.Read == b.Read && slices.Equal(a.Reads, b.Reads) && slices.Equal(a.Changes, b.Changes)
	}
	return calls[api.Txn]{"txn", PutTxn, GetTxn, txnBytes, same}
}

func ofBatches() calls[api.Batch] {
	same := func(a, b api.Batch) bool {
		return a.Prev == b.Prev && a.Version == b.Version && a.Known == b.Known && slices.Equal(a.Changes, b.Changes)
	}
	return calls[api.Batch]{"batch", PutBatch, GetBatch, batchBytes, same}
}

func ofStates() calls[api.State] {
	same := func(a, b api.State) bool {
		return a.Generation == b.Generation && a.Epoch == b.Epoch && a.Recovered == b.Recovered && slices.Equal(a.Chests, b.Chests)
	}
	return calls[api.State]{"state", PutState, GetState, stateBytes, same}
}

// short: a text for a failed test's message.
func short(b string) string { return b[:min(len(b), 100)] }

// sound: is x told as its bytes, and are these x?
func (c calls[T]) sound(t *testing.T, x T) {
	t.Helper()
	want := c.bytes(x)
	if got, e := c.put(x); e != api.OK || string(got) != want {
		t.Errorf("%s: put: %q, %d, not %q", c.name, short(string(got)), e, short(want))
	}
	if got, e := c.get([]byte(want)); e != api.OK || !c.same(got, x) {
		t.Errorf("%s: get of %q: %d, or another one", c.name, short(want), e)
	}
}

// wrong: is x not told, and what would be its bytes not taken?
func (c calls[T]) wrong(t *testing.T, x T) {
	t.Helper()
	if got, e := c.put(x); e != api.ErrForm || got != nil {
		t.Errorf("%s: put of what would be %q: %q, %d", c.name, short(c.bytes(x)), short(string(got)), e)
	}
	c.none(t, c.bytes(x))
}

// none: are these bytes of none?
func (c calls[T]) none(t *testing.T, b string) {
	t.Helper()
	if got, e := c.get([]byte(b)); e != api.ErrForm || !reflect.ValueOf(got).IsZero() {
		t.Errorf("%s: get of %q: %d, or not nothing beside it", c.name, short(b), e)
	}
}

// perhaps: are these bytes of none, or just the bytes of what is answered, which can be told?
func (c calls[T]) perhaps(t *testing.T, b string) {
	t.Helper()
	x, e := c.get([]byte(b))
	if e != api.OK {
		c.none(t, b)
		return
	}
	if got, e := c.put(x); c.bytes(x) != b || string(got) != b || e != api.OK {
		t.Errorf("%s: get of %q, put again: %q, %d", c.name, short(b), short(string(got)), e)
	}
}

// cut: bytes that end too early, or go on, are of none. Where there are many, only some of the places are tried.
func (c calls[T]) cut(t *testing.T, b string) {
	t.Helper()
	for i := 0; i < len(b); i += 1 + len(b)/200 {
		c.none(t, b[:i])
	}
	c.none(t, b[:len(b)-1])
	for more := 0; more < 256; more += 1 + len(b)/20 {
		c.none(t, b+string([]byte{byte(more)}))
	}
	c.none(t, b+b)
}

// spoilt: bytes of which a bit is turned, one is taken away, or one comes twice.
func spoilt(b string) []string {
	var out []string
	for i := range b {
		for bit := range 8 {
			turned := []byte(b)
			turned[i] ^= 1 << bit
			out = append(out, string(turned))
		}
		out = append(out, b[:i]+b[i+1:], b[:i]+b[i:i+1]+b[i:])
	}
	return out
}

// sizes: numbers that may be anywhere from 0 on, at the ends of how many bytes they have.
func sizes() []int {
	return []int{0, 1, 127, 128, 300, 16383, 16384, 1 << 32, 1<<56 - 1, 1 << 56, api.Last, math.MaxInt}
}

// below: numbers that are not from 0 on.
func below() []int { return []int{-1, -128, -1 << 32, math.MinInt} }

// noNode: numbers that no node may have.
func noNode() []int { return append(below(), 256, 257, 300, 1<<16, math.MaxInt) }

// goodChanges: of each kind, at the ends of what they may have.
func goodChanges() []api.Change {
	key, value := long(api.MaxKey), long(api.MaxValue)
	return []api.Change{
		set("k", "v"), set("", ""), set(key, value), set("\x00\xff", "é\x80"), clr("k"), clr(""), clr(key),
		rub("a", "b"), rub("", ""), rub("b", "b"), rub(end(), end()), rub("", end()), rub(end(), "z"), rub(long(17), long(17)),
	}
}

// badChanges: those that are not sound, of each kind and of none.
func badChanges() []api.Change {
	return []api.Change{
		{}, {Kind: 4}, {Kind: 4, Key: "a", Value: "b"}, {Kind: -1}, {Kind: 1 << 8, Key: "a"}, {Kind: 1<<8 + 1, Key: "a"}, {Kind: math.MaxInt}, {Kind: math.MinInt},
		set(long(17), ""), set("a", long(65)), set(long(1000), long(1000)), set("a", long(api.MaxBody+1)),
		clr(long(17)), {Kind: api.Clear, Key: "a", Value: "v"}, {Kind: api.Clear, Value: "\x00"},
		rub("b", "a"), rub("a", ""), rub("a\x00", "a"), rub(long(18), long(18)), rub("a", long(18)), rub(long(18), "z"),
	}
}

func goodReads() []api.Span {
	return []api.Span{of("a", "b"), of("", ""), of("b", "b"), of("", "\xff"), of("", end()), of(end(), "z"), of(end(), end()), of(long(17), long(17)), of("\x00", "\x00\x00"), of("z", "é")}
}

// badReads: spans that are inverted, or too long; one of them is both.
func badReads() []api.Span {
	return []api.Span{of("b", "a"), of("a", ""), of("a\x00", "a"), of("\xff", "\xfe\xff"), of(end(), long(16)), of(long(18), "z"), of("a", long(18)), of(long(18), long(18)), of("", end()+"\x00"), of(long(1000), ""), of("", long(api.MaxBody+1))}
}

// A message (P5.1)

func goodMessages() []api.Message {
	out := []api.Message{
		{Kind: api.Core, From: 255, To: 3, Epoch: 1 << 50, A: 300, C: 7, Body: []byte("body")},
		{Kind: 5, From: 60, To: 20, Epoch: 1, A: 2, B: 3, C: 4, Body: []byte{0, 255, 128}},
		{Kind: 1, Body: []byte{}},
		{Kind: 20, From: 255, To: 255, Epoch: math.MaxInt, A: math.MaxInt, B: math.MaxInt, C: math.MaxInt, Body: []byte("x")},
	}
	for kind := api.Ask; kind <= api.Core; kind++ {
		out = append(out, api.Message{Kind: kind, From: kind, To: 100 + kind})
	}
	for _, n := range []int{0, 1, 100, 127, 128, 254, 255} {
		out = append(out, api.Message{Kind: 1, From: n}, api.Message{Kind: 1, To: n})
	}
	for _, n := range sizes() {
		out = append(out, api.Message{Kind: 1, Epoch: n}, api.Message{Kind: 1, A: n}, api.Message{Kind: 1, B: n}, api.Message{Kind: 1, C: n})
	}
	for _, n := range []int{1, 127, 128, 16384, api.MaxBody - 1, api.MaxBody} {
		out = append(out, api.Message{Kind: 20, Body: []byte(long(n))})
	}
	return out
}

func badMessages() []api.Message {
	out := []api.Message{{}, {Body: []byte("body")}}
	for _, kind := range []int{0, -1, 21, 22, 128, 129, 256 + 1, math.MaxInt, math.MinInt} {
		out = append(out, api.Message{Kind: kind, From: 1, To: 2, Epoch: 3})
	}
	for _, n := range noNode() {
		out = append(out, api.Message{Kind: 1, From: n}, api.Message{Kind: 1, To: n}, api.Message{Kind: 20, From: n, To: n})
	}
	for _, n := range below() {
		out = append(out, api.Message{Kind: 1, Epoch: n}, api.Message{Kind: 1, A: n}, api.Message{Kind: 1, B: n}, api.Message{Kind: 1, C: n})
	}
	for _, n := range []int{api.MaxBody + 1, api.MaxBody + 2, 2 * api.MaxBody, 1 << 21} {
		out = append(out, api.Message{Kind: 1, Body: []byte(long(n))})
	}
	return out
}

func TestMessage(t *testing.T) {
	for _, m := range goodMessages() {
		ofMessages().sound(t, m)
	}
	m := api.Message{Kind: 2, From: 1, To: 200, Epoch: 300, A: 4, B: 5, C: 6, Body: []byte("hi")}
	want := "\xd2\x2d\x50\x44" + "\x02\x01\xc8\x01\xac\x02\x04\x05\x06\x02hi"
	if got, e := Encode(m); string(got) != want || e != api.OK {
		t.Errorf("Encode: %q, %d", got, e)
	}
}

func TestMessageThatIsNotSound(t *testing.T) {
	for _, m := range badMessages() {
		ofMessages().wrong(t, m)
	}
}

func TestMessageOfSpoiltBytes(t *testing.T) {
	c := ofMessages()
	for _, m := range goodMessages() {
		b := messageBytes(m)
		c.cut(t, b)
		if len(b) > 100 {
			b = b[:100] // the whole of it would take long; the sum of less is wrong, too
		}
		for _, bad := range spoilt(b) {
			c.none(t, bad)
		}
	}
	for _, b := range []string{"", "\x00", "\x00\x00\x00", "\x00\x00\x00\x00", long(1000)} {
		c.none(t, b)
	}
	c.none(t, messageInside(api.Message{Kind: 1}))
}

func TestMessageOfOneTurnedBitInALargeBody(t *testing.T) {
	b := messageBytes(api.Message{Kind: 1, Body: []byte(long(api.MaxBody))})
	for i := 0; i < len(b); i += 997 {
		turned := []byte(b)
		turned[i] ^= 1 << (i % 8)
		ofMessages().none(t, string(turned))
	}
}

func TestMessageOfSealedBytesThatAreNone(t *testing.T) {
	c := ofMessages()
	for _, m := range goodMessages()[:40] {
		inside := messageInside(m)
		for i := range inside {
			c.none(t, sealed(inside[:i]))
		}
		for _, more := range []string{"\x00", "\x01", "\x80", "k", inside} {
			c.none(t, sealed(inside+more))
		}
		for _, bad := range spoilt(inside) {
			c.perhaps(t, sealed(bad))
		}
	}
	ahead := numbers(1, 2, 3, 4, 5, 6, 7)
	for _, b := range []string{
		ahead + "\x01", ahead + "\x80\x00", ahead + "\x00\x00", ahead + "\x02a", ahead + "\x01ab",
		ahead + number(api.MaxBody) + long(api.MaxBody-1), ahead + number(api.MaxBody) + long(api.MaxBody+1), ahead + text(long(api.MaxBody+1)),
		ahead + number(math.MaxInt), ahead + number(1<<32) + "a", numbers(1, 2, 3, 4, 5, 6) + "\x80\x00" + "\x00",
		"\x81\x00" + numbers(2, 3, 4, 5, 6, 7) + "\x00", long(9) + "\x00",
	} {
		c.none(t, sealed(b))
	}
}

// A transaction (P5.1)

func goodTxns() []api.Txn {
	out := []api.Txn{
		{},
		{Reads: []api.Span{}, Changes: []api.Change{}},
		{Read: 300, Reads: []api.Span{of("a", "b")}, Changes: []api.Change{set("k", "v")}},
		{Read: 7, Reads: goodReads(), Changes: goodChanges()},
		{Reads: slices.Repeat([]api.Span{of("", "")}, api.MaxParts)},
		{Changes: slices.Repeat([]api.Change{clr("")}, api.MaxParts)},
		{Reads: slices.Repeat([]api.Span{of("a", end())}, api.MaxParts), Changes: slices.Repeat([]api.Change{set(long(16), long(64))}, api.MaxParts)},
		{Reads: make([]api.Span, api.MaxParts-1), Changes: slices.Repeat([]api.Change{rub("a", end())}, api.MaxParts-1)},
	}
	for _, n := range sizes() {
		out = append(out, api.Txn{Read: n}, api.Txn{Read: n, Reads: []api.Span{of("b", "c")}, Changes: []api.Change{rub("b", "c")}})
	}
	for _, s := range goodReads() {
		out = append(out, api.Txn{Read: 1, Reads: []api.Span{s}}, api.Txn{Reads: []api.Span{of("x", "y"), s}, Changes: []api.Change{clr("a")}})
	}
	for _, c := range goodChanges() {
		out = append(out, api.Txn{Read: 1, Changes: []api.Change{c}}, api.Txn{Reads: []api.Span{of("x", "y")}, Changes: []api.Change{clr("a"), c}})
	}
	return out
}

func badTxns() []api.Txn {
	fine := set("k", "v")
	out := []api.Txn{
		{Reads: make([]api.Span, api.MaxParts+1)},
		{Reads: make([]api.Span, api.MaxParts+2), Changes: []api.Change{fine}},
		{Reads: make([]api.Span, 1000)},
		{Changes: slices.Repeat([]api.Change{fine}, api.MaxParts+1)},
		{Reads: []api.Span{of("a", "b")}, Changes: slices.Repeat([]api.Change{fine}, 1000)},
	}
	for _, n := range below() {
		out = append(out, api.Txn{Read: n}, api.Txn{Read: n, Reads: []api.Span{of("a", "b")}, Changes: []api.Change{fine}})
	}
	for _, s := range badReads() {
		out = append(out, api.Txn{Reads: []api.Span{s}}, api.Txn{Reads: []api.Span{s, of("a", "b")}, Changes: []api.Change{fine}}, api.Txn{Reads: []api.Span{of("a", "b"), s}})
		out = append(out, api.Txn{Reads: append(make([]api.Span, api.MaxParts-1), s)})
	}
	for _, c := range badChanges() {
		out = append(out, api.Txn{Changes: []api.Change{c}}, api.Txn{Changes: []api.Change{c, fine}}, api.Txn{Reads: []api.Span{of("a", "b")}, Changes: []api.Change{fine, c}})
		out = append(out, api.Txn{Changes: append(slices.Repeat([]api.Change{fine}, api.MaxParts-1), c)})
	}
	return out
}

func TestTxn(t *testing.T) {
	for _, x := range goodTxns() {
		ofTxns().sound(t, x)
	}
	x := api.Txn{Read: 300, Reads: []api.Span{of("a", "b"), of("", "")}, Changes: []api.Change{set("k", "v"), clr("x"), rub("b", "cd")}}
	want := "\xac\x02\x02\x01a\x01b\x00\x00\x03\x01\x01k\x01v\x02\x01x\x00\x03\x01b\x02cd"
	if got, e := PutTxn(x); string(got) != want || e != api.OK {
		t.Errorf("PutTxn: %q, %d", got, e)
	}
}

func TestTxnThatIsNotSound(t *testing.T) {
	for _, x := range badTxns() {
		ofTxns().wrong(t, x)
	}
}

func TestTxnOfSpoiltBytes(t *testing.T) {
	c := ofTxns()
	for _, x := range goodTxns() {
		b := txnBytes(x)
		c.cut(t, b)
		for _, bad := range spoilt(b) {
			c.perhaps(t, bad)
		}
	}
	c.none(t, "")
}

func TestTxnOfOneTurnedBit(t *testing.T) {
	good := "\x05\x01\x01a\x01b\x01\x01\x01k\x01v"
	for _, row := range []struct {
		place int
		turn  byte
		want  api.Errno
	}{
		{0, 1, api.OK}, {0, 128, api.ErrForm}, // another Read; one that goes on, so that nothing is where it was
		{1, 1, api.ErrForm}, {1, 2, api.ErrForm}, {1, 128, api.ErrForm}, // how many Reads
		{2, 1, api.ErrForm}, {3, 1, api.OK}, {3, 2, api.ErrForm}, // a From that is not above To; one that is
		{4, 1, api.ErrForm}, {5, 1, api.OK}, {5, 32, api.ErrForm}, // a To likewise
		{6, 1, api.ErrForm}, {6, 2, api.ErrForm}, // how many Changes
		{7, 1, api.ErrForm}, {7, 2, api.OK}, {7, 4, api.ErrForm}, // a Kind: none; Wipe; none
		{8, 1, api.ErrForm}, {9, 1, api.OK}, {10, 2, api.ErrForm}, {11, 1, api.OK}, // Key and Value
	} {
		b := []byte(good)
		b[row.place] ^= row.turn
		if _, e := GetTxn(b); e != row.want {
			t.Errorf("GetTxn(%q): %d", b, e)
		}
	}
}

func TestTxnOfCountsThatMayNotBe(t *testing.T) {
	span, put := text("a")+text("b"), number(api.Put)+text("k")+text("v")
	for _, n := range []int{25, 26, 127, 128, 4096, 4097, 1 << 32, 1<<62 + 1, math.MaxInt} {
		some := min(n, 5000)
		for _, b := range []string{
			"\x00" + number(n), "\x00" + number(n) + "\x00", "\x00" + number(n) + strings.Repeat(span, some) + "\x00",
			"\x00\x00" + number(n), "\x00\x00" + number(n) + "\x00", "\x00\x00" + number(n) + strings.Repeat(put, some),
		} {
			ofTxns().none(t, b)
		}
	}
	for _, b := range []string{"\x00\x00\x80\x00", "\x00\x80\x00\x00", "\x80\x00\x00\x00", "\x00\x01\x00\x00", "\x00\x00\x01", "\x00\x00\x01\x01\x00"} {
		ofTxns().none(t, b)
	}
}

// A batch (P5.1)

func goodBatches() []api.Batch {
	out := []api.Batch{
		{},
		{Changes: []api.Change{}},
		{Prev: 1, Version: 2, Known: 3, Changes: []api.Change{set("k", "v")}},
		{Prev: 300, Version: 200, Known: 100, Changes: goodChanges()}, // that versions rise is not asked here
		{Changes: slices.Repeat([]api.Change{set("k", "v")}, api.MaxParts+1)},
		{Changes: slices.Repeat([]api.Change{clr("")}, api.MaxList-1)},
		{Prev: 5, Changes: slices.Repeat([]api.Change{clr("")}, api.MaxList)},
		{Known: 5, Changes: slices.Repeat([]api.Change{set(long(16), long(64))}, api.MaxList)},
	}
	for _, n := range sizes() {
		out = append(out, api.Batch{Prev: n}, api.Batch{Version: n}, api.Batch{Known: n}, api.Batch{Prev: n, Version: n, Known: n, Changes: []api.Change{rub("a", "b")}})
	}
	for _, c := range goodChanges() {
		out = append(out, api.Batch{Version: 1, Changes: []api.Change{c}}, api.Batch{Changes: []api.Change{clr("a"), c}})
	}
	return out
}

func badBatches() []api.Batch {
	fine := set("k", "v")
	out := []api.Batch{
		{Changes: slices.Repeat([]api.Change{fine}, api.MaxList+1)},
		{Changes: slices.Repeat([]api.Change{clr("")}, api.MaxList+2)},
		{Changes: slices.Repeat([]api.Change{clr("")}, 1<<14)},
	}
	for _, n := range below() {
		out = append(out, api.Batch{Prev: n}, api.Batch{Version: n}, api.Batch{Known: n}, api.Batch{Prev: 1, Version: 2, Known: n, Changes: []api.Change{fine}})
	}
	for _, c := range badChanges() {
		out = append(out, api.Batch{Changes: []api.Change{c}}, api.Batch{Changes: []api.Change{c, fine}}, api.Batch{Prev: 1, Version: 2, Changes: []api.Change{fine, c}})
		out = append(out, api.Batch{Changes: append(slices.Repeat([]api.Change{fine}, api.MaxList-1), c)})
	}
	return out
}

func TestBatch(t *testing.T) {
	for _, x := range goodBatches() {
		ofBatches().sound(t, x)
	}
	x := api.Batch{Prev: 1, Version: 300, Known: 3, Changes: []api.Change{set("k", "v"), clr("x"), rub("b", "cd")}}
	want := "\x01\xac\x02\x03\x03\x01\x01k\x01v\x02\x01x\x00\x03\x01b\x02cd"
	if got, e := PutBatch(x); string(got) != want || e != api.OK {
		t.Errorf("PutBatch: %q, %d", got, e)
	}
}

func TestBatchThatIsNotSound(t *testing.T) {
	for _, x := range badBatches() {
		ofBatches().wrong(t, x)
	}
}

func TestBatchOfSpoiltBytes(t *testing.T) {
	c := ofBatches()
	for _, x := range goodBatches() {
		b := batchBytes(x)
		c.cut(t, b)
		if len(b) > 2000 {
			continue
		}
		for _, bad := range spoilt(b) {
			c.perhaps(t, bad)
		}
	}
	c.none(t, "")
}

func TestBatchOfOneTurnedBit(t *testing.T) {
	good := "\x05\x06\x07\x01\x01\x01k\x01v"
	for _, row := range []struct {
		place int
		turn  byte
		want  api.Errno
	}{
		{0, 1, api.OK}, {1, 2, api.OK}, {2, 64, api.OK}, {0, 128, api.ErrForm}, {2, 128, api.ErrForm},
		{3, 1, api.ErrForm}, {3, 2, api.ErrForm}, {3, 128, api.ErrForm},
		{4, 1, api.ErrForm}, {4, 2, api.OK}, {4, 4, api.ErrForm}, {4, 128, api.ErrForm},
		{5, 1, api.ErrForm}, {6, 1, api.OK}, {6, 128, api.OK}, {7, 1, api.ErrForm}, {7, 2, api.ErrForm}, {8, 1, api.OK},
	} {
		b := []byte(good)
		b[row.place] ^= row.turn
		if _, e := GetBatch(b); e != row.want {
			t.Errorf("GetBatch(%q): %d", b, e)
		}
	}
}

func TestBatchOfCountsThatMayNotBe(t *testing.T) {
	clear := number(api.Clear) + "\x00\x00"
	for _, n := range []int{4097, 4098, 5000, 16384, 1 << 32, 1<<62 + 1, math.MaxInt} {
		for _, b := range []string{"\x01\x02\x03" + number(n), "\x01\x02\x03" + number(n) + "\x00", "\x01\x02\x03" + number(n) + strings.Repeat(clear, min(n, 20000))} {
			ofBatches().none(t, b)
		}
	}
	for _, b := range []string{"\x00\x00\x00\x80\x00", "\x80\x00\x00\x00\x00", "\x00\x00\x00\x01", "\x00\x00\x00\x01\x01\x00", "\x00\x00\x00\x02" + clear} {
		ofBatches().none(t, b)
	}
}

// A state (P5.1)

func goodStates() []api.State {
	out := []api.State{
		{},
		{Chests: []int{}},
		{Generation: 4, Epoch: 5, Recovered: 6, Chests: []int{20, 255}},
		{Generation: 300, Epoch: 200, Recovered: 100, Chests: []int{0, 0, 128, 127, 255, 255}}, // neither need they rise
		{Chests: make([]int, api.MaxNodes-1)},
		{Chests: make([]int, api.MaxNodes)},
		{Recovered: 1, Chests: slices.Repeat([]int{255}, api.MaxNodes)},
	}
	for _, n := range sizes() {
		out = append(out, api.State{Generation: n}, api.State{Epoch: n}, api.State{Recovered: n}, api.State{Generation: n, Epoch: n, Recovered: n, Chests: []int{1}})
	}
	for n := range 256 {
		out = append(out, api.State{Epoch: 1, Chests: []int{n}}, api.State{Chests: []int{20, n}})
	}
	return out
}

func badStates() []api.State {
	out := []api.State{
		{Chests: make([]int, api.MaxNodes+1)},
		{Generation: 1, Epoch: 2, Recovered: 3, Chests: make([]int, api.MaxNodes+2)},
		{Chests: make([]int, 5000)},
	}
	for _, n := range below() {
		out = append(out, api.State{Generation: n}, api.State{Epoch: n}, api.State{Recovered: n}, api.State{Generation: 1, Epoch: 2, Recovered: n, Chests: []int{3}})
	}
	for _, n := range noNode() {
		out = append(out, api.State{Chests: []int{n}}, api.State{Chests: []int{n, 20}}, api.State{Chests: []int{20, n}})
		out = append(out, api.State{Chests: append(make([]int, api.MaxNodes-1), n)})
	}
	return out
}

func TestState(t *testing.T) {
	for _, s := range goodStates() {
		ofStates().sound(t, s)
	}
	s := api.State{Generation: 4, Epoch: 300, Recovered: 6, Chests: []int{20, 255, 0}}
	if got, e := PutState(s); string(got) != "\x04\xac\x02\x06\x03\x14\xff\x01\x00" || e != api.OK {
		t.Errorf("PutState: %q, %d", got, e)
	}
}

func TestStateThatIsNotSound(t *testing.T) {
	for _, s := range badStates() {
		ofStates().wrong(t, s)
	}
}

func TestStateOfSpoiltBytes(t *testing.T) {
	c := ofStates()
	for _, s := range goodStates() {
		b := stateBytes(s)
		c.cut(t, b)
		for _, bad := range spoilt(b) {
			c.perhaps(t, bad)
		}
	}
	c.none(t, "")
}

func TestStateOfOneTurnedBit(t *testing.T) {
	good := "\x05\x06\x07\x02\x14\xff\x01"
	for _, row := range []struct {
		place int
		turn  byte
		want  api.Errno
	}{
		{0, 1, api.OK}, {1, 2, api.OK}, {2, 64, api.OK}, {0, 128, api.ErrForm}, {1, 128, api.ErrForm},
		{3, 1, api.ErrForm}, {3, 2, api.ErrForm}, {3, 16, api.ErrForm},
		{4, 1, api.OK}, {4, 128, api.ErrForm}, {5, 64, api.OK}, {5, 128, api.ErrForm},
		{6, 1, api.ErrForm}, {6, 2, api.ErrForm}, {6, 128, api.ErrForm},
	} {
		b := []byte(good)
		b[row.place] ^= row.turn
		if _, e := GetState(b); e != row.want {
			t.Errorf("GetState(%q): %d", b, e)
		}
	}
}

func TestStateOfCountsThatMayNotBe(t *testing.T) {
	for _, n := range []int{17, 18, 127, 128, 4096, 1 << 32, 1<<62 + 1, math.MaxInt} {
		for _, b := range []string{"\x01\x02\x03" + number(n), "\x01\x02\x03" + number(n) + "\x00", "\x01\x02\x03" + number(n) + strings.Repeat("\x14", min(n, 5000))} {
			ofStates().none(t, b)
		}
	}
	for _, b := range []string{"\x00\x00\x00\x80\x00", "\x80\x00\x00\x00\x00", "\x00\x00\x00\x01", "\x00\x00\x00\x01\x80\x00", "\x00\x00\x00\x01\x80\x02", "\x00\x00\x00\x01\x80"} {
		ofStates().none(t, b)
	}
}

// Any bytes

// strewn: bytes that look as if there were no rule in them.
func strewn(seed uint32, n int, most uint32) string {
	out := make([]byte, n)
	for i := range out {
		seed = seed*1664525 + 1013904223
		out[i] = byte((seed >> 16) % most)
	}
	return string(out)
}

func TestAnyBytes(t *testing.T) {
	for seed := range uint32(20000) {
		for _, most := range []uint32{3, 5, 256} {
			b := strewn(seed*3+most, int(seed%30), most)
			ofMessages().none(t, b)
			ofMessages().perhaps(t, sealed(b))
			ofTxns().perhaps(t, b)
			ofBatches().perhaps(t, b)
			ofStates().perhaps(t, b)
		}
	}
}

// allOf: all texts of at most so many bytes, of some bytes.
func allOf(some string, most int) []string {
	out, row := []string{""}, []string{""}
	for range most {
		var next []string
		for _, s := range row {
			for i := range some {
				next = append(next, s+some[i:i+1])
			}
		}
		out, row = append(out, next...), next
	}
	return out
}

func TestAllShortBytes(t *testing.T) {
	for _, some := range []string{"\x00\x01\x02\x03", "\x00\x01\x80", "\x00\x01\x11\x19"} {
		for _, b := range allOf(some, 7) {
			ofMessages().perhaps(t, sealed(b))
			ofTxns().perhaps(t, b)
			ofBatches().perhaps(t, b)
			ofStates().perhaps(t, b)
		}
	}
}

// What is handed in, and what is answered (R3, R4, R5)

func TestWhatIsHandedInIsNotChanged(t *testing.T) {
	m := api.Message{Kind: 1, Body: []byte("body and spare room")[:4]}
	reads := []api.Span{of("a", "b"), of("spare", "room")}
	list := []api.Change{set("k", "v"), clr("x"), set("spare", "room")}
	chests := []int{20, 21, -1, -1}
	Encode(m)
	PutTxn(api.Txn{Reads: reads[:1], Changes: list[:2]})
	PutBatch(api.Batch{Changes: list[:2]})
	PutState(api.State{Chests: chests[:2]})
	if string(m.Body[:cap(m.Body)][:19]) != "body and spare room" || reads[0] != of("a", "b") || reads[1] != of("spare", "room") {
		t.Errorf("a body is now %q, spans are %q", m.Body, reads)
	}
	if !slices.Equal(list, []api.Change{set("k", "v"), clr("x"), set("spare", "room")}) || !slices.Equal(chests, []int{20, 21, -1, -1}) {
		t.Errorf("changes are now %v, numbers are %d", list, chests)
	}
}

// fresh: are the bytes that are read left as they are, spare room included, and are answers new ones each time, which hang on neither the bytes nor on each other?
func fresh[T any](t *testing.T, c calls[T], x T, spoil func(T)) {
	t.Helper()
	want := c.bytes(x)
	room := []byte(want + "spare room")
	first, _ := c.get(room[:len(want)])
	second, _ := c.get(room[:len(want)])
	if string(room) != want+"spare room" {
		t.Errorf("%s: bytes that were handed in are now %q", c.name, room)
	}
	spoil(first)
	for i := range room {
		room[i]++
	}
	if !c.same(second, x) {
		t.Errorf("%s: what was answered is another one now", c.name)
	}
	one, _ := c.put(x)
	other, _ := c.put(x)
	for i := range one[:cap(one)] {
		one[:cap(one)][i]++
	}
	if string(other) != want {
		t.Errorf("%s: bytes that were answered are now %q", c.name, other)
	}
	if again, e := c.get(other); e != api.OK || !c.same(again, x) {
		t.Errorf("%s: get: %d, or another one", c.name, e)
	}
}

func TestWhatIsAnsweredIsNew(t *testing.T) {
	list := []api.Change{set("k", "v"), rub("a", "b"), clr("x")}
	fresh(t, ofMessages(), api.Message{Kind: 1, From: 2, Body: []byte("body")}, func(m api.Message) { clear(m.Body[:cap(m.Body)]) })
	fresh(t, ofTxns(), api.Txn{Read: 1, Reads: []api.Span{of("a", "b"), of("c", "d")}, Changes: list}, func(x api.Txn) {
		clear(x.Reads[:cap(x.Reads)])
		clear(x.Changes[:cap(x.Changes)])
	})
	fresh(t, ofBatches(), api.Batch{Prev: 1, Version: 2, Changes: list}, func(x api.Batch) { clear(x.Changes[:cap(x.Changes)]) })
	fresh(t, ofStates(), api.State{Epoch: 1, Chests: []int{20, 21, 22}}, func(s api.State) { clear(s.Chests[:cap(s.Chests)]) })
}

func TestNil(t *testing.T) {
	ofMessages().none(t, "")
	for _, got := range []api.Errno{nilError(Decode), nilError(GetTxn), nilError(GetBatch), nilError(GetState)} {
		if got != api.ErrForm {
			t.Errorf("of nil: %d", got)
		}
	}
}

func nilError[T any](get func([]byte) (T, api.Errno)) api.Errno {
	_, e := get(nil)
	return e
}
