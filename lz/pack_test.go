package lz_test

import (
	"math/rand/v2"
	"strings"
	"testing"

	"isogloss/api"
	"isogloss/lz"
)

// P4.1: the chapter's example, of 100 a's: a, and a copy of 99 from a distance of 1.
func TestExample(t *testing.T) {
	const want = "\x64\x01\x01a\x01\x63"
	b := strings.Repeat("a", 100)
	if got := mustPack(t, b); got != want {
		t.Errorf("Pack of 100 a's: %x, not %x", got, want)
	}
	checkUnpackIs(t, want, b, api.OK)
}

// P4.1: what parts that are found make shorter: four bytes are found where they stood last, in what was copied, too.
func TestPackInParts(t *testing.T) {
	for _, c := range []struct{ b, want string }{
		{"aaaaa", packed(5, piece{"a", 1, 4})},
		{"abcdabcd", packed(8, piece{"abcd", 4, 4})},
		{"abcdXabcd", packed(9, piece{"abcdX", 5, 4})},
		{"abcabcabca", packed(10, piece{"abc", 3, 7})},
		{"abcdefgXabcdefgYZdefgYZ", packed(23, piece{"abcdefgX", 8, 7}, piece{"YZ", 6, 6})},
		{"abcdeabcdeZ", packed(11, piece{"abcde", 5, 5}, piece{own: "Z"})},
		{"\x00\x00\x00\x00\x00\x00\x00\x00", packed(8, piece{"\x00", 1, 7})},
		{distinct(200) + distinct(200), packed(400, piece{distinct(200), 200, 200})},
		{strings.Repeat("a", 60000), packed(60000, piece{"a", 1, 59999})},
		{distinct(29998) + distinct(29998), packed(59996, piece{distinct(29998), 29998, 29998})},
		{
			strings.Repeat("a", 50) + strings.Repeat("b", 50),
			packed(100, piece{"a", 1, 49}, piece{"b", 1, 49}),
		},
	} {
		if got := mustPack(t, c.b); got != c.want {
			t.Errorf("Pack(%q, of %d): %x, not %x", brief(c.b), len(c.b), brief(got), brief(c.want))
		}
	}
}

// P4.1: what is as long in parts, or longer, is held as it is: nothing, bytes of which no four come again, and copies that win nothing.
func TestPackAsTheyAre(t *testing.T) {
	l := []string{
		"", "a", "ab", "abc", "abcd", "aaaa", "abcdabc", "abcXabcYabcZ", "abcdabcdZ", "YabcdabcdZ", "\x00", "\x01\x01", "\xff\xff\xff\xff",
		distinct(127) + distinct(4) + "Z", distinct(60000),
	}
	for n := range 300 {
		l = append(l, distinct(n))
	}
	for _, b := range l {
		if got := mustPack(t, b); got != stored(b) {
			t.Errorf("Pack(%q, of %d): %x, not as it is", brief(b), len(b), brief(got))
		}
	}
}

// P4.1: just MaxBytes bytes, and more.
func TestPackTooLong(t *testing.T) {
	all := strings.Repeat("ab", 60000)
	other := randomText(rand.New(rand.NewPCG(4, 2)), 120000, 256)
	for _, b := range []string{all, other} {
		checkUnpackIs(t, mustPack(t, b[:60000]), b[:60000], api.OK)
		for _, n := range []int{60001, 60002, 120000} {
			if s, e := lz.Pack(b[:n]); s != "" || e != api.ErrLong {
				t.Errorf("Pack of %d bytes: %d bytes, error %d", n, len(s), e)
			}
		}
	}
}

// P4.1, P4.2: packed bytes are as the words tell, make the bytes again, are in parts just if that is shorter, and are at most 4 more.
func TestPackedBytes(t *testing.T) {
	for _, b := range texts() {
		checkPacked(t, b)
	}
	r := rand.New(rand.NewPCG(4, 3))
	for range 5000 {
		checkPacked(t, randomText(r, r.IntN(120), 1+r.IntN(5)))
	}
}

func checkPacked(t *testing.T, b string) {
	t.Helper()
	s := mustPack(t, b)
	if again, e := slowUnpack(s); again != b || e != api.OK {
		t.Fatalf("Pack(%x, of %d): %x, which are packed bytes of %x, error %d", brief(b), len(b), brief(s), brief(again), e)
	}
	if again, e := lz.Unpack(s); again != b || e != api.OK {
		t.Errorf("Unpack(Pack(%x, of %d)): %x, error %d", brief(b), len(b), brief(again), e)
	}
	if len(s) > len(b)+4 {
		t.Errorf("Pack(%x): %d bytes of %d", brief(b), len(s), len(b))
	}
	if s != stored(b) && len(s) >= len(stored(b)) {
		t.Errorf("Pack(%x, of %d): %x in parts, of %d bytes, no shorter", brief(b), len(b), brief(s), len(s))
	}
	if other := mustPack(t, strings.Clone(b)); other != s {
		t.Errorf("Pack(%x, of %d) twice: %x, %x", brief(b), len(b), brief(s), brief(other))
	}
}

// P4.1: what comes again is made much shorter, whatever stands between, and so are long ones.
func TestPackedShorter(t *testing.T) {
	r := rand.New(rand.NewPCG(4, 4))
	one := randomText(r, 10000, 256)
	between := randomText(r, 20000, 256)
	for _, c := range []struct {
		b    string
		most int
	}{
		{one + one, 10020},
		{one + between + one, 30020},
		{one + between + one + one[500:] + one[:9000], 30050},
		{strings.Repeat("the same, and then ", 3000), 40},
		{strings.Repeat("\x00", 60000), 10},
		{randomText(r, 60000, 2), 40000},
	} {
		if s := mustPack(t, c.b); len(s) > c.most {
			t.Errorf("Pack(%x, of %d): %d bytes, more than %d", brief(c.b), len(c.b), len(s), c.most)
		}
	}
}

// P4.2: packed bytes at the lengths at which the number of bytes gets longer.
func TestPackedAtMostFourMore(t *testing.T) {
	for _, c := range []struct{ n, more int }{{0, 2}, {1, 2}, {127, 2}, {128, 3}, {16383, 3}, {16384, 4}, {60000, 4}} {
		b := distinct(c.n)
		if s := mustPack(t, b); len(s) != len(b)+c.more {
			t.Errorf("Pack of %d bytes: %d more, not %d", c.n, len(s)-len(b), c.more)
		}
	}
}

// P4.1: packed bytes are packed, too.
func TestPackTwice(t *testing.T) {
	for _, b := range texts() {
		if once := mustPack(t, b); len(once) <= api.MaxBytes {
			checkPacked(t, once)
		}
	}
}
