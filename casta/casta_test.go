package casta

import (
	"bytes"
	"hash/crc32"
	"slices"
	"strings"
	"testing"

	"roundhouse/api"
)

// texts: of all single bytes, and of many lengths and kinds of bytes.
func texts() [][]byte {
	out := [][]byte{nil, {}}
	for c := range 256 {
		out = append(out, []byte{byte(c)}, []byte{0, byte(c)}, []byte{byte(c), 0})
	}
	long := make([]byte, 300)
	state := uint32(1)
	for i := range long {
		state = state*1664525 + 1013904223
		long[i] = byte(state >> 24)
		out = append(out, long[:i+1])
	}
	for _, n := range []int{4, 32, 1000} {
		out = append(out, make([]byte, n), bytes.Repeat([]byte{0xff}, n))
	}
	return out
}

// plain: the sum as the words say it, a bit at a time.
func plain(b []byte) uint32 {
	register := uint32(0xFFFFFFFF)
	for _, c := range b {
		for bit := range 8 {
			fell := register&1 != uint32(c>>bit)&1
			register >>= 1
			if fell {
				register ^= 0x82F63B78
			}
		}
	}
	return register ^ 0xFFFFFFFF
}

// P2.1

func TestSum(t *testing.T) {
	for text, want := range map[string]uint32{
		"":                         0,
		"123456789":                0xE3069283,
		"a":                        0xC1D04330,
		strings.Repeat("\x00", 32): 0x8A9136AA,
		strings.Repeat("\xff", 32): 0x62A8AB43,
		"\x00":                     0x527D5351,
		strings.Repeat("\x00", 4):  0x48674BC7,
		"\xff\xff\xff\xff":         0xFFFFFFFF,
		"The quick brown fox jumps over the lazy dog": 0x22620404,
	} {
		if got := Sum([]byte(text)); got != want {
			t.Errorf("Sum(%q): %#x", text, got)
		}
	}
}

func TestSumOfManyTexts(t *testing.T) {
	table := crc32.MakeTable(crc32.Castagnoli)
	for _, b := range texts() {
		got := Sum(b)
		if got != crc32.Checksum(b, table) || got != plain(b) {
			t.Errorf("Sum(%q): %#x", b, got)
		}
	}
}

func TestMore(t *testing.T) {
	for _, b := range texts() {
		want := Sum(b)
		for i := 0; i <= len(b); i += 1 + len(b)/40 {
			if got := More(Sum(b[:i]), b[i:]); got != want {
				t.Errorf("More of %q, from %d on: %#x", b, i, got)
			}
		}
	}
}

func TestMoreOfAnySum(t *testing.T) {
	table := crc32.MakeTable(crc32.Castagnoli)
	for _, sum := range []uint32{0, 1, 0x80000000, 0xFFFFFFFF, 0xE3069283, 0x82F63B78} {
		if got := More(sum, nil); got != sum {
			t.Errorf("More(%#x, nothing): %#x", sum, got)
		}
		for _, b := range texts() {
			if got := More(sum, b); got != crc32.Update(sum, table, b) {
				t.Errorf("More(%#x, %q): %#x", sum, b, got)
			}
		}
	}
}

// P2.2

func TestSeal(t *testing.T) {
	for text, want := range map[string]string{
		"":                 "\x00\x00\x00\x00",
		"123456789":        "\x83\x92\x06\xe3123456789",
		"a":                "\x30\x43\xd0\xc1a",
		"\xff\xff\xff\xff": "\xff\xff\xff\xff\xff\xff\xff\xff",
	} {
		if got := Seal([]byte(text)); string(got) != want {
			t.Errorf("Seal(%q): %q", text, got)
		}
	}
	if got := Seal(nil); string(got) != "\x00\x00\x00\x00" {
		t.Errorf("Seal(nil): %q", got)
	}
}

func TestOpenOfWhatWasSealed(t *testing.T) {
	for _, b := range texts() {
		sealed := Seal(b)
		if len(sealed) != 4+len(b) {
			t.Errorf("Seal(%q): %q", b, sealed)
		}
		if got, e := Open(sealed); !bytes.Equal(got, b) || e != api.OK {
			t.Errorf("Open(Seal(%q)): %q, %d", b, got, e)
		}
		if got, e := Open(Seal(sealed)); !bytes.Equal(got, sealed) || e != api.OK {
			t.Errorf("Open of %q, sealed twice: %q, %d", b, got, e)
		}
	}
}

func TestOpenOfFewerThanFour(t *testing.T) {
	for _, text := range []string{"", "\x00", "a", "\x00\x00", "\x00\x00\x00", "\xff\xff\xff", "abc"} {
		if got, e := Open([]byte(text)); len(got) != 0 || e != api.ErrShort {
			t.Errorf("Open(%q): %q, %d", text, got, e)
		}
	}
	if got, e := Open(nil); len(got) != 0 || e != api.ErrShort {
		t.Errorf("Open(nil): %q, %d", got, e)
	}
}

func TestOpenOfWhatDoesNotFit(t *testing.T) {
	for _, text := range []string{
		"\x01\x00\x00\x00",
		"\x00\x00\x00\x80",
		"\xff\xff\xff\xff",
		"\x00\x00\x00\x00\x00",
		"\x00\x00\x00\x00a",
		"\xe3\x06\x92\x83123456789",
		"123456789\x83\x92\x06\xe3",
		"\x83\x92\x06\xe312345678",
		"\x83\x92\x06\xe31234567890",
		"\x83\x92\x06\xe3213456789",
	} {
		if got, e := Open([]byte(text)); got != nil || e != api.ErrForm {
			t.Errorf("Open(%q): %q, %d", text, got, e)
		}
	}
}

func TestOpenOfEachBitTurned(t *testing.T) {
	sealed := Seal([]byte("123456789"))
	for i := range sealed {
		for bit := range 8 {
			sealed[i] ^= 1 << bit
			if got, e := Open(sealed); got != nil || e != api.ErrForm {
				t.Errorf("byte %d, bit %d: %q, %d", i, bit, got, e)
			}
			sealed[i] ^= 1 << bit
		}
	}
}

// R4 and R5, of the calls that take and answer lists.

func TestBytesAreNotSharedOrChanged(t *testing.T) {
	text := Seal([]byte("abc"))
	room := append(slices.Clone(text), "spare room"...)
	list := room[:len(text)]
	was := slices.Clone(room)
	calls := []func() []byte{
		func() []byte { return Seal(list) },
		func() []byte { return Seal(list[:0]) },
		func() []byte { b, _ := Open(list); return b },
	}
	for i, call := range calls {
		first := call()
		kept := slices.Clone(first)
		for j := range first[:cap(first)] {
			first[:cap(first)][j]++
		}
		Sum(list)
		More(7, list)
		if !bytes.Equal(room, was) {
			t.Errorf("call %d: what was handed in is now %q", i, room)
		}
		if second := call(); !bytes.Equal(second, kept) {
			t.Errorf("call %d: %q, then %q", i, kept, second)
		}
	}
}
