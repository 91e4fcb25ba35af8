package code

import (
	"bytes"
	"math"
	"slices"
	"strings"
	"testing"

	"roundhouse/api"
)

// row: a number, and its bytes.
type row struct {
	n int
	b string
}

// rows: numbers at the ends of how many bytes they have, and some between.
func rows() []row {
	return []row{
		{0, "\x00"},
		{1, "\x01"},
		{5, "\x05"},
		{127, "\x7f"},
		{128, "\x80\x01"},
		{129, "\x81\x01"},
		{255, "\xff\x01"},
		{256, "\x80\x02"},
		{300, "\xac\x02"},
		{16383, "\xff\x7f"},
		{16384, "\x80\x80\x01"},
		{api.MaxBody, "\x80\x80\x04"},
		{1<<21 - 1, "\xff\xff\x7f"},
		{1 << 21, "\x80\x80\x80\x01"},
		{1<<32 - 1, "\xff\xff\xff\xff\x0f"},
		{1 << 35, "\x80\x80\x80\x80\x80\x01"},
		{api.MaxTime, "\x80\x80\x80\x80\x80\x20"},
		{1<<56 - 1, "\xff\xff\xff\xff\xff\xff\xff\x7f"},
		{1 << 56, "\x80\x80\x80\x80\x80\x80\x80\x80\x01"},
		{api.Last, "\x80\x80\xc0\xff\xff\xff\xff\xff\x3f"},
		{math.MaxInt - 1, "\xfe\xff\xff\xff\xff\xff\xff\xff\x7f"},
		{math.MaxInt, "\xff\xff\xff\xff\xff\xff\xff\xff\x7f"},
	}
}

// numbers: each power of two, and those beside it.
func numbers() []int {
	out := []int{0}
	for i := range 63 {
		out = append(out, 1<<i-1, 1<<i, 1<<i+1)
	}
	return append(out, math.MaxInt)
}

// below: numbers that are not from 0 on.
func below() []int { return []int{-1, -2, -127, -128, -129, -1 << 32, math.MinInt + 1, math.MinInt} }

// wrongs: bytes that begin with no number, and why.
func wrongs() map[string]api.Errno {
	out := map[string]api.Errno{
		"":                                     api.ErrShort,
		"\x80\x00":                             api.ErrForm,
		"\x80\x00\x01":                         api.ErrForm,
		"\xff\x00":                             api.ErrForm,
		"\x81\x80\x00":                         api.ErrForm,
		"\x80\x80\x80\x80\x80\x00":             api.ErrForm,
		strings.Repeat("\xff", 8) + "\x00":     api.ErrForm,
		strings.Repeat("\x80", 8) + "\x00":     api.ErrForm,
		strings.Repeat("\xff", 9) + "\x00":     api.ErrForm,
		strings.Repeat("\xff", 9) + "\x01":     api.ErrForm,
		strings.Repeat("\x80", 9) + "\x01":     api.ErrForm,
		strings.Repeat("\x80", 9) + "\x00":     api.ErrForm,
		strings.Repeat("\x80", 9) + "\x80\x01": api.ErrForm,
	}
	for i := 1; i < 9; i++ {
		out[strings.Repeat("\x80", i)] = api.ErrShort
		out[strings.Repeat("\xff", i)] = api.ErrShort
	}
	for i := 9; i < 20; i++ {
		out[strings.Repeat("\x80", i)] = api.ErrForm
		out[strings.Repeat("\xff", i)] = api.ErrForm
	}
	return out
}

// long: a text of so many bytes.
func long(n int) string { return strings.Repeat("t", n) }

// texts: of some lengths, and of any bytes.
func texts() []string {
	return []string{"", "\x00", "a", "ab", "\xff", "\x80\x00", "é\xff", long(127), long(128), long(16383), long(16384), long(api.MaxBody - 1), long(api.MaxBody)}
}

// put: the bytes of a number.
func put(t *testing.T, n int) string {
	b, e := PutNum(nil, n)
	if e != api.OK {
		t.Fatalf("PutNum(%d): %d", n, e)
	}
	return string(b)
}

// P3.1

func TestPutNum(t *testing.T) {
	for _, c := range rows() {
		for _, ahead := range []string{"", "x", "\x80", "abc\xff"} {
			if got, e := PutNum([]byte(ahead), c.n); string(got) != ahead+c.b || e != api.OK {
				t.Errorf("PutNum(%q, %d): %q, %d", ahead, c.n, got, e)
			}
		}
		if got, e := PutNum(nil, c.n); string(got) != c.b || e != api.OK {
			t.Errorf("PutNum(nil, %d): %q, %d", c.n, got, e)
		}
	}
}

func TestPutNumBelow0(t *testing.T) {
	for _, n := range below() {
		for _, ahead := range []string{"", "x"} {
			if got, e := PutNum([]byte(ahead), n); got != nil || e != api.ErrRange {
				t.Errorf("PutNum(%q, %d): %q, %d", ahead, n, got, e)
			}
		}
	}
}

func TestNum(t *testing.T) {
	for _, c := range rows() {
		for _, rest := range []string{"", "\x00", "\x80", "more", strings.Repeat("\xff", 20)} {
			if n, used, e := Num([]byte(c.b + rest)); n != c.n || used != len(c.b) || e != api.OK {
				t.Errorf("Num(%q): %d, %d, %d", c.b+rest, n, used, e)
			}
		}
	}
}

func TestNumOfWhatWasPut(t *testing.T) {
	for _, n := range numbers() {
		b := put(t, n)
		if got, used, e := Num([]byte(b)); got != n || used != len(b) || e != api.OK {
			t.Errorf("Num(%q): %d, %d, %d, but %d was put", b, got, used, e, n)
		}
	}
}

func TestNumOfNone(t *testing.T) {
	for b, want := range wrongs() {
		if n, used, e := Num([]byte(b)); n != 0 || used != 0 || e != want {
			t.Errorf("Num(%q): %d, %d, %d", b, n, used, e)
		}
	}
	if n, used, e := Num(nil); n != 0 || used != 0 || e != api.ErrShort {
		t.Errorf("Num(nil): %d, %d, %d", n, used, e)
	}
}

func TestNumOfWhatEndsTooEarly(t *testing.T) {
	for _, n := range numbers() {
		b := put(t, n)
		for i := range len(b) {
			if got, used, e := Num([]byte(b[:i])); got != 0 || used != 0 || e != api.ErrShort {
				t.Errorf("Num(%q): %d, %d, %d", b[:i], got, used, e)
			}
		}
	}
}

func TestNumOfAllPairsOfBytes(t *testing.T) {
	for first := range 256 {
		for second := range 256 {
			b := []byte{byte(first), byte(second)}
			n, used, e := Num(b)
			switch {
			case first < 128:
				if n != first || used != 1 || e != api.OK {
					t.Errorf("Num(%q): %d, %d, %d", b, n, used, e)
				}
			case second == 0:
				if n != 0 || used != 0 || e != api.ErrForm {
					t.Errorf("Num(%q): %d, %d, %d", b, n, used, e)
				}
			case second < 128:
				if n != first-128+128*second || used != 2 || e != api.OK {
					t.Errorf("Num(%q): %d, %d, %d", b, n, used, e)
				}
			default:
				if n != 0 || used != 0 || e != api.ErrShort {
					t.Errorf("Num(%q): %d, %d, %d", b, n, used, e)
				}
			}
		}
	}
}

// P3.2

func TestPutText(t *testing.T) {
	for s, want := range map[string]string{
		"":                    "\x00",
		"ab":                  "\x02ab",
		"\x00":                "\x01\x00",
		"é\xff":               "\x03\xc3\xa9\xff",
		long(127):             "\x7f" + long(127),
		long(128):             "\x80\x01" + long(128),
		long(300):             "\xac\x02" + long(300),
		long(1000):            "\xe8\x07" + long(1000),
		long(api.MaxBody - 1): "\xff\xff\x03" + long(api.MaxBody-1),
		long(api.MaxBody):     "\x80\x80\x04" + long(api.MaxBody),
	} {
		for _, ahead := range []string{"", "x", "\x80\x80"} {
			if got, e := PutText([]byte(ahead), s); string(got) != ahead+want || e != api.OK {
				t.Errorf("PutText(%q, a text of %d): %d bytes, %d", ahead, len(s), len(got), e)
			}
		}
		if got, e := PutText(nil, s); string(got) != want || e != api.OK {
			t.Errorf("PutText(nil, a text of %d): %d bytes, %d", len(s), len(got), e)
		}
	}
}

func TestPutTextTooLarge(t *testing.T) {
	for _, n := range []int{api.MaxBody + 1, api.MaxBody + 2, 2 * api.MaxBody} {
		for _, ahead := range []string{"", "x"} {
			if got, e := PutText([]byte(ahead), long(n)); got != nil || e != api.ErrLarge {
				t.Errorf("PutText(%q, a text of %d): %d bytes, %d", ahead, n, len(got), e)
			}
		}
	}
}

func TestTextOfWhatWasPut(t *testing.T) {
	for _, want := range texts() {
		b, _ := PutText(nil, want)
		for _, rest := range []string{"", "\x00", "more", "\xff\xff"} {
			s, used, e := Text(append(slices.Clone(b), rest...))
			if s != want || used != len(b) || e != api.OK {
				t.Errorf("Text of a text of %d, and %q behind: %d, %d, %d", len(want), rest, len(s), used, e)
			}
		}
	}
}

func TestTextOfNone(t *testing.T) {
	for b, want := range wrongs() {
		if s, used, e := Text([]byte(b)); s != "" || used != 0 || e != want {
			t.Errorf("Text(%q): %q, %d, %d", b, s, used, e)
		}
	}
	if s, used, e := Text(nil); s != "" || used != 0 || e != api.ErrShort {
		t.Errorf("Text(nil): %q, %d, %d", s, used, e)
	}
}

func TestTextThatSaysTooMuch(t *testing.T) {
	for _, n := range []int{api.MaxBody + 1, api.MaxBody + 2, 1 << 20, 1<<32 + 1, 1 << 62, api.Last, math.MaxInt - 9, math.MaxInt} {
		for _, rest := range []string{"", "a", long(api.MaxBody + 2)} {
			if s, used, e := Text([]byte(put(t, n) + rest)); s != "" || used != 0 || e != api.ErrLarge {
				t.Errorf("Text of %d, with %d behind: %q, %d, %d", n, len(rest), s, used, e)
			}
		}
	}
}

func TestTextThatEndsTooEarly(t *testing.T) {
	for _, n := range []int{1, 2, 127, 128, 300, api.MaxBody - 1, api.MaxBody} {
		for _, there := range []int{0, n / 2, n - 1} {
			if s, used, e := Text([]byte(put(t, n) + long(there))); s != "" || used != 0 || e != api.ErrShort {
				t.Errorf("Text of %d, with %d behind: %q, %d, %d", n, there, s, used, e)
			}
		}
	}
}

// P3.3

func TestNums(t *testing.T) {
	for _, c := range []struct {
		list []int
		want string
	}{
		{nil, ""},
		{[]int{}, ""},
		{[]int{0}, "\x00"},
		{[]int{0, 0}, "\x00\x00"},
		{[]int{5, 0, 1000}, "\x05\x00\xe8\x07"},
		{[]int{128, 127}, "\x80\x01\x7f"},
		{[]int{math.MaxInt, 1}, "\xff\xff\xff\xff\xff\xff\xff\xff\x7f\x01"},
	} {
		if got, e := Nums(c.list...); string(got) != c.want || e != api.OK {
			t.Errorf("Nums(%d): %q, %d", c.list, got, e)
		}
	}
	if got, e := Nums(); len(got) != 0 || e != api.OK {
		t.Errorf("Nums(): %q, %d", got, e)
	}
}

func TestNumsBelow0(t *testing.T) {
	for _, n := range below() {
		for _, list := range [][]int{{n}, {n, 1}, {1, n}, {1, n, 2}, {n, n}, append(make([]int, api.MaxList-1), n)} {
			if got, e := Nums(list...); got != nil || e != api.ErrRange {
				t.Errorf("Nums of %d, with %d among them: %q, %d", len(list), n, got, e)
			}
		}
	}
}

func TestNumsOfTooMany(t *testing.T) {
	for _, first := range []int{0, -1, math.MinInt} { // more than MaxList is named first
		for _, n := range []int{api.MaxList + 1, 2 * api.MaxList} {
			list := make([]int, n)
			list[0] = first
			if got, e := Nums(list...); got != nil || e != api.ErrLarge {
				t.Errorf("Nums of %d numbers, from %d on: %d bytes, %d", n, first, len(got), e)
			}
		}
	}
}

func TestSplitOfWhatWasPut(t *testing.T) {
	many := make([]int, api.MaxList)
	for i := range many {
		many[i] = i * i * i
	}
	lists := [][]int{nil, {0}, {5, 0, 1000}, {0, 0, 0}, numbers(), many[:api.MaxList-1], many}
	for _, list := range lists {
		b, e := Nums(list...)
		if e != api.OK {
			t.Errorf("Nums of %d: %d", len(list), e)
		}
		if got, e := Split(b, len(list)); !slices.Equal(got, list) || e != api.OK {
			t.Errorf("Split of %d: %d of them, %d", len(list), len(got), e)
		}
	}
}

func TestSplitOfNoBytes(t *testing.T) {
	for _, b := range [][]byte{nil, {}} {
		if got, e := Split(b, 0); len(got) != 0 || e != api.OK {
			t.Errorf("Split(nothing, 0): %d, %d", got, e)
		}
		for _, count := range []int{1, 2, api.MaxList} {
			if got, e := Split(b, count); got != nil || e != api.ErrShort {
				t.Errorf("Split(nothing, %d): %d, %d", count, got, e)
			}
		}
	}
}

func TestSplitOfWrongCounts(t *testing.T) {
	counts := append(below(), api.MaxList+1, api.MaxList+2, 1<<31, math.MaxInt)
	for _, count := range counts {
		for _, b := range []string{"", "\x00", "\x80\x00", "\x80", strings.Repeat("\x01", api.MaxList+1)} {
			if got, e := Split([]byte(b), count); got != nil || e != api.ErrArg {
				t.Errorf("Split(%d bytes, %d): %d, %d", len(b), count, got, e)
			}
		}
	}
}

func TestSplitOfWrongBytes(t *testing.T) {
	for wrong, want := range wrongs() {
		for count, ahead := range []string{"", "\x07", "\xac\x02\x00", "\x00\x01\x02"} { // so many numbers, and a wrong one behind
			if got, e := Split([]byte(ahead+wrong), count+1); got != nil || e != want {
				t.Errorf("Split(%q, %d): %d, %d", ahead+wrong, count+1, got, e)
			}
		}
	}
}

func TestSplitAnswersTheFirstError(t *testing.T) {
	for _, c := range []struct {
		b     string
		count int
		want  api.Errno
	}{
		{"\x05\x00\xe8\x07", 3, api.OK},
		{"\x05\x00\xe8\x07", 2, api.ErrForm},
		{"\x05\x00\xe8\x07", 1, api.ErrForm},
		{"\x05\x00\xe8\x07", 0, api.ErrForm},
		{"\x05\x00\xe8\x07", 4, api.ErrShort},
		{"\x05\x00\xe8\x07", api.MaxList, api.ErrShort},
		{"\x05\x00\xe8", 3, api.ErrShort},
		{"\x05\x00\xe8", 2, api.ErrForm},
		{"\x80\x00", 2, api.ErrForm},
		{"\x80\x00\x80", 2, api.ErrForm},
		{"\x01\x80", 1, api.ErrForm},
		{"\x01\x80", 2, api.ErrShort},
		{"\x80", 0, api.ErrForm},
		{"\x00\x00", 1, api.ErrForm},
		{"\x00\x00", 2, api.OK},
	} {
		got, e := Split([]byte(c.b), c.count)
		if e != c.want || e != api.OK && got != nil || e == api.OK && len(got) != c.count {
			t.Errorf("Split(%q, %d): %d, %d", c.b, c.count, got, e)
		}
	}
}

func TestSplitOfOneTooManyOrTooFew(t *testing.T) {
	full := bytes.Repeat([]byte{1}, api.MaxList)
	if got, e := Split(full, api.MaxList); len(got) != api.MaxList || e != api.OK {
		t.Errorf("Split of %d: %d of them, %d", api.MaxList, len(got), e)
	}
	if got, e := Split(append(full, 1), api.MaxList); got != nil || e != api.ErrForm {
		t.Errorf("Split of one more: %d of them, %d", len(got), e)
	}
	if got, e := Split(full[1:], api.MaxList); got != nil || e != api.ErrShort {
		t.Errorf("Split of one fewer: %d of them, %d", len(got), e)
	}
}

// R4 and R5, of the calls that take and answer lists.

func TestBytesAreNotSharedOrChanged(t *testing.T) {
	room := []byte("\x03abcspare room, and more of it")
	list := room[:4]
	was := slices.Clone(room)
	calls := []func() []byte{
		func() []byte { b, _ := PutNum(list, 300); return b },
		func() []byte { b, _ := PutNum(list[:0], 0); return b },
		func() []byte { b, _ := PutText(list, "xyz"); return b },
		func() []byte { b, _ := PutText(list[:0], ""); return b },
		func() []byte { b, _ := Nums(1, 300, 0); return b },
	}
	for i, call := range calls {
		first := call()
		kept := slices.Clone(first)
		for j := range first[:cap(first)] {
			first[:cap(first)][j]++
		}
		if second := call(); !bytes.Equal(second, kept) {
			t.Errorf("call %d: %q, then %q", i, kept, second)
		}
	}
	Num(list)
	Split(list, 4)
	s, _, _ := Text(list)
	if !bytes.Equal(room, was) {
		t.Errorf("what was handed in is now %q", room)
	}
	room[1] = 'z'
	if s != "abc" {
		t.Errorf("a text that was answered is now %q", s)
	}
}

func TestNumbersAreNotSharedOrChanged(t *testing.T) {
	room := []int{5, 0, 1000, -1, -1, -1}
	list := room[:3]
	b, _ := Nums(list...)
	if !slices.Equal(room, []int{5, 0, 1000, -1, -1, -1}) {
		t.Errorf("what was handed in is now %d", room)
	}
	first, _ := Split(b, 3)
	for i := range first[:cap(first)] {
		first[:cap(first)][i] = 7
	}
	if second, e := Split(b, 3); !slices.Equal(second, list) || e != api.OK {
		t.Errorf("Split: %d, %d", second, e)
	}
}
