package prim_test

import (
	"encoding/binary"
	"math"
	"math/rand/v2"
	"strings"
	"testing"

	"isogloss/prim"
)

// numbers are those at which something changes (each power of two, and its neighbours), and others of all lengths.
func numbers() []uint64 {
	l := []uint64{0, 300, 0x010203, 0x0102030405060708, math.MaxInt64, math.MaxUint64}
	for i := range 64 {
		p := uint64(1) << i
		l = append(l, p-1, p, p+1, -p)
	}
	r := rand.New(rand.NewPCG(1, 2))
	for range 2000 {
		l = append(l, r.Uint64()>>r.IntN(64))
	}
	return l
}

// texts are of lengths around those whose Uint gets longer, with bytes of all kinds.
func texts() []string {
	l := []string{"", "\x00", "a", "ab", "\x80", "\xff\xff", "\x02ab", "ä\x00z"}
	for _, n := range []int{126, 127, 128, 129, 300, 16383, 16384, 16385} {
		l = append(l, strings.Repeat("x\xfe", n)[:n])
	}
	return l
}

// P1.1: Uint of numbers that stand written out, at the edges of their lengths.
func TestUintWrittenOut(t *testing.T) {
	for _, c := range []struct {
		n    uint64
		want string
	}{
		{0, "\x00"},
		{1, "\x01"},
		{127, "\x7f"},
		{128, "\x80\x01"},
		{300, "\xac\x02"},
		{1<<14 - 1, "\xff\x7f"},
		{1 << 14, "\x80\x80\x01"},
		{1<<63 - 1, "\xff\xff\xff\xff\xff\xff\xff\xff\x7f"},
		{1 << 63, "\x80\x80\x80\x80\x80\x80\x80\x80\x80\x01"},
		{1<<64 - 1, "\xff\xff\xff\xff\xff\xff\xff\xff\xff\x01"},
	} {
		if got := prim.Uint(c.n); got != c.want {
			t.Errorf("Uint(%d): %x, not %x", c.n, got, c.want)
		}
	}
}

// P1.1: Uint of many numbers, against the library's.
func TestUintLikeLibrary(t *testing.T) {
	for _, n := range numbers() {
		if got, want := prim.Uint(n), string(binary.AppendUvarint(nil, n)); got != want {
			t.Errorf("Uint(%d): %x, not %x", n, got, want)
		}
	}
}

// P1.1: Zig and Zag of 0, the numbers next to it, and the greatest and least ones.
func TestZigZagWrittenOut(t *testing.T) {
	for _, c := range []struct {
		n int64
		z uint64
	}{
		{0, 0}, {-1, 1}, {1, 2}, {-2, 3}, {2, 4}, {-64, 127}, {64, 128},
		{math.MaxInt64, math.MaxUint64 - 1}, {math.MinInt64, math.MaxUint64},
		{math.MaxInt64 - 1, math.MaxUint64 - 3}, {math.MinInt64 + 1, math.MaxUint64 - 2},
	} {
		if got := prim.Zig(c.n); got != c.z {
			t.Errorf("Zig(%d): %d, not %d", c.n, got, c.z)
		}
		if got := prim.Zag(c.z); got != c.n {
			t.Errorf("Zag(%d): %d, not %d", c.z, got, c.n)
		}
	}
}

// P1.1: Zig counts up by turns; Zag turns it back, and the other way.
func TestZigZagCount(t *testing.T) {
	for i := range int64(5000) {
		if prim.Zig(i) != uint64(2*i) || prim.Zig(-i-1) != uint64(2*i+1) {
			t.Errorf("Zig at %d: %d, %d", i, prim.Zig(i), prim.Zig(-i-1))
		}
	}
	for _, n := range numbers() {
		if prim.Zig(prim.Zag(n)) != n || prim.Zag(prim.Zig(int64(n))) != int64(n) {
			t.Errorf("Zig and Zag of %d", n)
		}
	}
}

// P1.1: Fixed in both orders, of all sizes.
func TestFixedWrittenOut(t *testing.T) {
	const n = 0x0182030405f60708
	big := []string{"\x08", "\x07\x08", "\xf6\x07\x08", "\x05\xf6\x07\x08", "\x04\x05\xf6\x07\x08",
		"\x03\x04\x05\xf6\x07\x08", "\x82\x03\x04\x05\xf6\x07\x08", "\x01\x82\x03\x04\x05\xf6\x07\x08"}
	little := []string{"\x08", "\x08\x07", "\x08\x07\xf6", "\x08\x07\xf6\x05", "\x08\x07\xf6\x05\x04",
		"\x08\x07\xf6\x05\x04\x03", "\x08\x07\xf6\x05\x04\x03\x82", "\x08\x07\xf6\x05\x04\x03\x82\x01"}
	for size := 1; size <= 8; size++ {
		if got := prim.Fixed(n, size, true); got != big[size-1] {
			t.Errorf("size %d, big: %x", size, got)
		}
		if got := prim.Fixed(n, size, false); got != little[size-1] {
			t.Errorf("size %d, little: %x", size, got)
		}
	}
	if got := prim.Fixed(1, 4, true) + prim.Fixed(1, 4, false); got != "\x00\x00\x00\x01\x01\x00\x00\x00" {
		t.Errorf("noughts: %x", got)
	}
}

// P1.1: Fixed of many numbers, against the library's.
func TestFixedLikeLibrary(t *testing.T) {
	for _, n := range numbers() {
		big := string(binary.BigEndian.AppendUint64(nil, n))
		little := string(binary.LittleEndian.AppendUint64(nil, n))
		for size := 1; size <= 8; size++ {
			if got := prim.Fixed(n, size, true); got != big[8-size:] {
				t.Errorf("Fixed(%x, %d, true): %x", n, size, got)
			}
			if got := prim.Fixed(n, size, false); got != little[:size] {
				t.Errorf("Fixed(%x, %d, false): %x", n, size, got)
			}
		}
	}
}

// wrongSizes are sizes of which no number is.
func wrongSizes() []int {
	return []int{0, 9, 10, 16, 64, 1 << 20, 1<<32 + 1, math.MaxInt, -1, -2, -8, math.MinInt, math.MinInt + 1}
}

// P1.1: Fixed of other sizes.
func TestFixedOfOtherSizes(t *testing.T) {
	for _, size := range wrongSizes() {
		for _, big := range []bool{false, true} {
			if got := prim.Fixed(math.MaxUint64, size, big); got != "" {
				t.Errorf("Fixed of size %d, %v: %x", size, big, got)
			}
		}
	}
}

// P1.1: Text is Uint of the length, and the text.
func TestText(t *testing.T) {
	for _, c := range []struct{ s, want string }{
		{"", "\x00"},
		{"a", "\x01a"},
		{"\x00\xff", "\x02\x00\xff"},
		{"ä", "\x02\xc3\xa4"},
	} {
		if got := prim.Text(c.s); got != c.want {
			t.Errorf("Text(%q): %x", c.s, got)
		}
	}
	for _, s := range texts() {
		if got, want := prim.Text(s), string(binary.AppendUvarint(nil, uint64(len(s))))+s; got != want {
			t.Errorf("Text of %d bytes: %d bytes", len(s), len(got))
		}
	}
}
