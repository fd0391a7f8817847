package mvcc_test

import (
	"math/rand/v2"
	"slices"
	"strings"
	"testing"

	"isogloss/api"
)

// fruit is a store of some keys, of which one is gone from 20 on, one begins at 30, and one has an empty value.
func fruit(t *testing.T) *both {
	t.Helper()
	return holding(t, has{"m", at(10, "M")}, has{"b", at(10, "B")}, has{"d", at(10, "")}, has{"f", at(10, "F")}, has{"f", gone(20)}, has{"h", at(30, "H")}, has{"m", at(20, "M2")}, has{"da", at(10, "DA")})
}

// checkScanIs holds that Scan answers just these.
func checkScanIs(t *testing.T, b *both, lo, hi string, time uint64, most int, want ...api.Write) {
	t.Helper()
	if got := b.fast.Scan(lo, hi, time, most); !slices.Equal(got, want) {
		t.Errorf("Scan(%q, %q, %d, %d): %v, not %v", lo, hi, time, most, got, want)
	}
	b.checkScan(lo, hi, time, most)
}

// P11.2: of all keys those that have a value at the time are told, rising; what is gone, or begins later, isn't.
func TestScanTimes(t *testing.T) {
	b := fruit(t)
	for _, time := range []uint64{0, 1, 9} {
		checkScanIs(t, b, "", "", time, 100)
	}
	for _, time := range []uint64{10, 11, 19} {
		checkScanIs(t, b, "", "", time, 100, write("b", "B"), write("d", ""), write("da", "DA"), write("f", "F"), write("m", "M"))
	}
	for _, time := range []uint64{20, 29} {
		checkScanIs(t, b, "", "", time, 100, write("b", "B"), write("d", ""), write("da", "DA"), write("m", "M2"))
	}
	for _, time := range []uint64{30, 31, 1 << 63, greatest} {
		checkScanIs(t, b, "", "", time, 100, write("b", "B"), write("d", ""), write("da", "DA"), write("h", "H"), write("m", "M2"))
	}
}

// P11.2: from lo on: a key that is lo is told, and one that is below it isn't.
func TestScanLo(t *testing.T) {
	b := fruit(t)
	rest := []api.Write{write("d", ""), write("da", "DA"), write("m", "M2")}
	for _, lo := range []string{"", "a", "az", "b"} {
		checkScanIs(t, b, lo, "", 20, 100, append([]api.Write{write("b", "B")}, rest...)...)
	}
	for _, lo := range []string{"b\x00", "ba", "c", "d"} {
		checkScanIs(t, b, lo, "", 20, 100, rest...)
	}
	for _, lo := range []string{"d\x00", "da"} {
		checkScanIs(t, b, lo, "", 20, 100, rest[1:]...)
	}
	for _, lo := range []string{"da\x00", "e", "f", "g", "h", "k", "m"} {
		checkScanIs(t, b, lo, "", 20, 100, rest[2:]...)
	}
	for _, lo := range []string{"m\x00", "mm", "z", "\x80", "\xff", strings.Repeat("z", 1000)} {
		checkScanIs(t, b, lo, "", 20, 100)
	}
}

// P11.2: below hi: a key that is hi isn't told; a hi of nothing bounds none.
func TestScanHi(t *testing.T) {
	b := fruit(t)
	for _, hi := range []string{"\x00", "a", "b"} {
		checkScanIs(t, b, "", hi, 20, 100)
	}
	for _, hi := range []string{"b\x00", "c", "d"} {
		checkScanIs(t, b, "", hi, 20, 100, write("b", "B"))
	}
	for _, hi := range []string{"d\x00", "da"} {
		checkScanIs(t, b, "", hi, 20, 100, write("b", "B"), write("d", ""))
	}
	for _, hi := range []string{"da\x00", "f", "g", "h", "m"} {
		checkScanIs(t, b, "", hi, 20, 100, write("b", "B"), write("d", ""), write("da", "DA"))
	}
	for _, hi := range []string{"m\x00", "z", "\xff", strings.Repeat("z", 1000), ""} {
		checkScanIs(t, b, "", hi, 20, 100, write("b", "B"), write("d", ""), write("da", "DA"), write("m", "M2"))
	}
}

// P11.2: from lo on and below hi; a hi that is lo, or below it, leaves none.
func TestScanBetween(t *testing.T) {
	b := fruit(t)
	checkScanIs(t, b, "d", "e", 20, 100, write("d", ""), write("da", "DA"))
	checkScanIs(t, b, "b", "d", 20, 100, write("b", "B"))
	checkScanIs(t, b, "c", "h", 30, 100, write("d", ""), write("da", "DA"))
	checkScanIs(t, b, "c", "i", 30, 100, write("d", ""), write("da", "DA"), write("h", "H"))
	for _, lo := range []string{"\x00", "a", "b", "d", "e", "m", "z"} {
		checkScanIs(t, b, lo, lo, 20, 100)
		checkScanIs(t, b, lo+"\x00", lo, 20, 100)
		checkScanIs(t, b, lo+"z", lo, 20, 100)
	}
	checkScanIs(t, b, "m", "b", 20, 100)
	checkScanIs(t, b, "z", "\x00", 20, 100)
	checkScanIs(t, b, "\xff", "a", 20, 100)
}

// P11.2: the key of nothing, and bytes from 128 on.
func TestScanEdgeKeys(t *testing.T) {
	b := holding(t, has{"\xff", at(1, "3")}, has{"", at(1, "0")}, has{"\x80", at(1, "2")}, has{"\x7f", at(1, "1")})
	checkScanIs(t, b, "", "", 1, 100, write("", "0"), write("\x7f", "1"), write("\x80", "2"), write("\xff", "3"))
	checkScanIs(t, b, "", "\x00", 1, 100, write("", "0"))
	checkScanIs(t, b, "\x00", "", 1, 100, write("\x7f", "1"), write("\x80", "2"), write("\xff", "3"))
	checkScanIs(t, b, "\x00", "\x80", 1, 100, write("\x7f", "1"))
	checkScanIs(t, b, "\x80", "\xff", 1, 100, write("\x80", "2"))
	checkScanIs(t, b, "\xff", "", 1, 100, write("\xff", "3"))
	checkScanIs(t, b, "\xff", "\xff\x00", 1, 100, write("\xff", "3"))
}

// P11.2: the first most ones, of those that have a value; none of most below 1.
func TestScanMost(t *testing.T) {
	b := fruit(t)
	all := []api.Write{write("b", "B"), write("d", ""), write("da", "DA"), write("h", "H"), write("m", "M2")}
	for _, most := range []int{-1 << 63, -1 << 31, -100, -1, 0} {
		checkScanIs(t, b, "", "", 30, most)
		checkScanIs(t, b, "b", "c", 30, most)
	}
	for most := range 5 {
		checkScanIs(t, b, "", "", 30, most, all[:most]...)
	}
	for _, most := range []int{5, 6, 7, 1 << 31, 1<<63 - 1} {
		checkScanIs(t, b, "", "", 30, most, all...)
	}
	checkScanIs(t, b, "e", "", 30, 1, all[3])
	checkScanIs(t, b, "e", "", 30, 2, all[3:]...)
	checkScanIs(t, b, "e", "h", 30, 1)
	checkScanIs(t, b, "d", "e", 30, 1, all[1])
	checkScanIs(t, b, "f", "g", 20, 1)
}

// P11.2: what a key has is told whole, and that it isn't gone.
func TestScanValue(t *testing.T) {
	long := strings.Repeat("v", api.MaxValue)
	b := holding(t, has{"a", at(1, long)}, has{"b", gone(1)}, has{"b", at(2, long[1:])}, has{"c", at(1, "")}, has{"c", gone(2)}, has{"c", at(3, "")})
	checkScanIs(t, b, "", "", 1, 9, write("a", long), write("c", ""))
	checkScanIs(t, b, "", "", 2, 9, write("a", long), write("b", long[1:]))
	checkScanIs(t, b, "", "", 3, 9, write("a", long), write("b", long[1:]), write("c", ""))
}

// P11.2: of no keys none is told.
func TestScanNone(t *testing.T) {
	b := newBoth(t)
	for _, lo := range []string{"", "a", "\xff"} {
		for _, hi := range []string{"", "a", "\xff"} {
			checkScanIs(t, b, lo, hi, greatest, 100)
		}
	}
	b.install("k", gone(1), api.OK)
	checkScanIs(t, b, "", "", greatest, 100)
}

// P11.2: stores, ranges, times and bounds at random.
func TestScanRandomly(t *testing.T) {
	r := rand.New(rand.NewPCG(11, 1))
	for range 400 {
		b := randomBoth(t, r, 200)
		for range 50 {
			b.checkScan(randomText(r, 3), randomText(r, 3), uint64(r.IntN(300)), r.IntN(40)-2)
			b.checkScan(randomText(r, 1), "", greatest-uint64(r.IntN(4)), r.IntN(200))
		}
	}
}

// P11.1: Keys are all of them, each once, those too that are gone.
func TestKeys(t *testing.T) {
	b := newBoth(t)
	if l := b.fast.Keys(); len(l) != 0 {
		t.Errorf("of none they are %q", l)
	}
	for i, key := range []string{"b", "a", "b", "c", "", "a", "\xff", "aa"} {
		b.install(key, gone(uint64(i+1)), api.OK)
	}
	if l := b.fast.Keys(); !slices.Equal(l, []string{"", "a", "aa", "b", "c", "\xff"}) {
		t.Errorf("they are %q", l)
	}
	b.refuse("d", gone(0), api.ErrArg)
	b.checkAll()
}
