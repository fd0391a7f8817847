package crc_test

import (
	"hash/crc32"
	"math/rand/v2"
	"strings"
	"testing"

	"isogloss/crc"
)

// slowState divides bit by bit, without a table: what stands at the low end is lost first.
func slowState(state uint32, b string) uint32 {
	for i := range len(b) {
		for bit := range 8 {
			lost := state&1 != uint32(b[i]>>bit&1)
			state /= 2
			if lost {
				state ^= 0x82f63b78
			}
		}
	}
	return state
}

// randomBytes are n bytes, the same ones of each seed.
func randomBytes(n int, seed uint64) string {
	r := rand.New(rand.NewPCG(seed, 7))
	b := make([]byte, n)
	for i := range b {
		b[i] = byte(r.Uint32())
	}
	return string(b)
}

// texts are no bytes, one byte of each value, bytes of all kinds, and long ones.
func texts() []string {
	l := []string{"", "123456789", "\x00\x00", "\xff\xff\xff\xff", "a\x00", "\x00a", "ä€𐍈"}
	for i := range 256 {
		l = append(l, string([]byte{byte(i)}))
	}
	for n := range 70 {
		l = append(l, strings.Repeat("\x00", n), strings.Repeat("\xff", n), randomBytes(n, uint64(n)))
	}
	for _, n := range []int{255, 256, 257, 4000, 4001, 60000, 1<<20 + 3} {
		l = append(l, randomBytes(n, 9))
	}
	return l
}

// tables are Make's, and others that are handed on.
func tables() []crc.Table {
	var none, counted, random crc.Table
	r := rand.New(rand.NewPCG(3, 4))
	for i := range counted {
		counted[i] = uint32(i)
		random[i] = r.Uint32()
	}
	return []crc.Table{crc.Make(), none, counted, random}
}

// brief is as much of some bytes as a fault is told with.
func brief(s string) string {
	return s[:min(len(s), 20)]
}

// P2.1: some places of Make's table that stand written out: the first, the last, and those of one bit.
func TestMakeWrittenOut(t *testing.T) {
	table := crc.Make()
	for _, c := range []struct {
		place int
		want  uint32
	}{
		{0, 0}, {1, 0xf26b8303}, {2, 0xe13b70f7}, {3, 0x1350f3f4}, {4, 0xc79a971f}, {8, 0x8ad958cf},
		{16, 0x105ec76f}, {32, 0x20bd8ede}, {64, 0x417b1dbc}, {127, 0x2f8b6829},
		{128, 0x82f63b78}, {129, 0x709db87b}, {254, 0x5f16d052}, {255, 0xad7d5351},
	} {
		if table[c.place] != c.want {
			t.Errorf("place %d: %08x, not %08x", c.place, table[c.place], c.want)
		}
	}
}

// P2.1: each of the 256 places of Make's table, by eight steps, and as the library has it.
func TestMakeEachPlace(t *testing.T) {
	table := crc.Make()
	library := crc32.MakeTable(crc32.Castagnoli)
	for i := range 256 {
		n := uint32(i)
		for range 8 {
			if n%2 == 1 {
				n = n/2 ^ 0x82f63b78
			} else {
				n = n / 2
			}
		}
		if table[i] != n || table[i] != library[i] {
			t.Errorf("place %d: %08x, not %08x, the library's %08x", i, table[i], n, library[i])
		}
	}
}

// P2.1: a table is its owner's: who changes one changes neither another one nor what Make makes next.
func TestMakeIsNew(t *testing.T) {
	first, second := crc.Make(), crc.Make()
	first[49]++
	if second == first || crc.Make() != second {
		t.Error("a table hangs on another one")
	}
	if crc.Sum(second, "123456789") != 0xe3069283 {
		t.Error("a sum hangs on a table that it isn't handed")
	}
}

// P2.1: sums that stand written out: the chapter's, that of no bytes, and those of RFC 3720.
func TestSumWrittenOut(t *testing.T) {
	rising, falling := make([]byte, 32), make([]byte, 32)
	for i := range 32 {
		rising[i], falling[i] = byte(i), byte(31-i)
	}
	table := crc.Make()
	for _, c := range []struct {
		b    string
		want uint32
	}{
		{"", 0},
		{"123456789", 0xe3069283},
		{"\x00", 0x527d5351},
		{"\xff", 0xff000000},
		{"a", 0xc1d04330},
		{strings.Repeat("\x00", 32), 0x8a9136aa},
		{strings.Repeat("\xff", 32), 0x62a8ab43},
		{string(rising), 0x46dd794e},
		{string(falling), 0x113fdb5c},
	} {
		if got := crc.Sum(table, c.b); got != c.want {
			t.Errorf("Sum(%x): %08x, not %08x", c.b, got, c.want)
		}
	}
}

// P2.1: sums of many bytes, against the library's, and against those that no table makes.
func TestSumOfMany(t *testing.T) {
	table := crc.Make()
	library := crc32.MakeTable(crc32.Castagnoli)
	for _, b := range texts() {
		got := crc.Sum(table, b)
		if want := crc32.Checksum([]byte(b), library); got != want {
			t.Errorf("Sum of %d bytes %x: %08x, the library's %08x", len(b), brief(b), got, want)
		}
		if want := slowState(0xffffffff, b) ^ 0xffffffff; got != want {
			t.Errorf("Sum of %d bytes %x: %08x, bit by bit %08x", len(b), brief(b), got, want)
		}
	}
}

// P2.1: a sum is made with the table that is handed on, whatever stands in it.
func TestSumHangsOnItsTable(t *testing.T) {
	want := crc.Make()
	for i := range 256 {
		b := string([]byte{byte(i), 'x'})
		table := want
		// The first byte meets all ones, and so its other's place is asked.
		table[255-i] ^= 0x10000
		if crc.Sum(table, b) == crc.Sum(want, b) {
			t.Errorf("place %d isn't asked", 255-i)
		}
	}
	var none crc.Table
	for _, c := range []struct {
		b    string
		want uint32
	}{
		{"", 0}, {"a", 0xff000000}, {"ab", 0xffff0000}, {"abc", 0xffffff00}, {"abcd", 0xffffffff}, {"abcde", 0xffffffff},
	} {
		if got := crc.Sum(none, c.b); got != c.want {
			t.Errorf("Sum(no table, %q): %08x, not %08x", c.b, got, c.want)
		}
	}
}

// P2.2: Begin is all ones, End is a state's other, and More of no bytes is the state.
func TestBeginAndEnd(t *testing.T) {
	if crc.Begin() != 0xffffffff {
		t.Errorf("Begin: %08x", crc.Begin())
	}
	for _, c := range []struct{ state, want uint32 }{
		{0, 0xffffffff}, {0xffffffff, 0}, {1, 0xfffffffe}, {0x80000000, 0x7fffffff}, {0x12345678, 0xedcba987},
	} {
		if got := crc.End(c.state); got != c.want {
			t.Errorf("End(%08x): %08x, not %08x", c.state, got, c.want)
		}
		for _, table := range tables() {
			if got := crc.More(table, c.state, ""); got != c.state {
				t.Errorf("More(%08x) of no bytes: %08x", c.state, got)
			}
		}
	}
}

// P2.2: More of any state, against what no table makes.
func TestMoreOfAnyState(t *testing.T) {
	table := crc.Make()
	r := rand.New(rand.NewPCG(5, 6))
	states := []uint32{0, 1, 0xff, 0x100, 0x80000000, 0xfffffffe, 0xffffffff}
	for range 50 {
		states = append(states, r.Uint32())
	}
	for _, state := range states {
		for _, b := range []string{"\x00", "\xff", "a", "123456789", randomBytes(100, uint64(state))} {
			if got, want := crc.More(table, state, b), slowState(state, b); got != want {
				t.Errorf("More(%08x, %x): %08x, not %08x", state, brief(b), got, want)
			}
		}
	}
}

// P2.2: bytes in two parts, at every place (an empty part too), are as all at once, with any table.
func TestMoreInTwoParts(t *testing.T) {
	for _, table := range tables() {
		for _, b := range []string{"", "a", "123456789", "\x00\x00\x00", "\xff\xff\xff\xff\xff", randomBytes(300, 1)} {
			whole := crc.More(table, crc.Begin(), b)
			if crc.End(whole) != crc.Sum(table, b) {
				t.Errorf("End of %d bytes %x isn't their sum", len(b), brief(b))
			}
			for i := range len(b) + 1 {
				got := crc.More(table, crc.More(table, crc.Begin(), b[:i]), b[i:])
				if got != whole {
					t.Errorf("%d bytes %x, parted at %d: %08x, not %08x", len(b), brief(b), i, got, whole)
				}
			}
		}
	}
}

// P2.2: bytes in many parts of many lengths are as all at once, and two sums that go on side by side don't meet.
func TestMoreInManyParts(t *testing.T) {
	table := crc.Make()
	r := rand.New(rand.NewPCG(8, 9))
	for round := range uint64(50) {
		left, right := randomBytes(500, round), randomBytes(500, round+1000)
		one, other := crc.Begin(), crc.Begin()
		for i := 0; i < 500; {
			n := min(r.IntN(40), 500-i)
			one = crc.More(table, one, left[i:i+n])
			other = crc.More(table, other, right[i:i+n])
			i += n
		}
		if crc.End(one) != crc.Sum(table, left) || crc.End(other) != crc.Sum(table, right) {
			t.Errorf("round %d: parts make another sum", round)
		}
	}
}

// P2.3: one bit that is turned, at every place of some bytes, makes another sum.
func TestTurnedBit(t *testing.T) {
	table := crc.Make()
	for _, b := range []string{
		"\x00", "\xff", "123456789", strings.Repeat("\x00", 40), strings.Repeat("\xff", 40), randomBytes(300, 2),
	} {
		want := crc.Sum(table, b)
		sums := map[uint32]int{want: -1}
		for i := range 8 * len(b) {
			turned := []byte(b)
			turned[i/8] ^= 1 << (i % 8)
			got := crc.Sum(table, string(turned))
			if got == want {
				t.Errorf("%x: bit %d turned makes the same sum", brief(b), i)
			}
			if other, told := sums[got]; told {
				t.Errorf("%x: bits %d and %d turned make the same sum", brief(b), i, other)
			}
			sums[got] = i
		}
	}
}

// P2.3: one bit that is turned in long bytes, at their ends and at many places between, makes another sum.
func TestTurnedBitOfLong(t *testing.T) {
	table := crc.Make()
	b := []byte(randomBytes(60000, 3))
	want := crc.Sum(table, string(b))
	r := rand.New(rand.NewPCG(1, 3))
	places := []int{0, 7, 8, 8*len(b) - 1, 8*len(b) - 8}
	for range 200 {
		places = append(places, r.IntN(8*len(b)))
	}
	for _, i := range places {
		b[i/8] ^= 1 << (i % 8)
		if crc.Sum(table, string(b)) == want {
			t.Errorf("bit %d turned makes the same sum", i)
		}
		b[i/8] ^= 1 << (i % 8)
	}
}
