package log_test

import (
	"math/rand/v2"
	"slices"
	"testing"

	"isogloss/api"
	"isogloss/crc"
	"isogloss/log"
)

// P8.1: the chapter's example, with its sum.
func TestStandsWrittenOut(t *testing.T) {
	ab := "\x00\x02\x14\xcb\x47\x2eab"
	checkStands(t, "ab", ab, 8, "ab")
	checkStands(t, "ab and c", ab+"\x00\x01\x01\x50\x5b\x9bc", 15, "ab", "c")
	checkStands(t, "ab and noughts", ab+noughts(64), 8, "ab")
	checkStands(t, "the less byte first", "\x02\x00\x14\xcb\x47\x2eab"+noughts(1000), 0)
	checkStands(t, "the least byte of the sum first", "\x00\x02\x2e\x47\xcb\x14ab", 0)
}

// P8.1: the sum is of the length too, not of the record alone.
func TestSumOfTheLength(t *testing.T) {
	for _, n := range rightLengths() {
		r := counted(n, n)
		of := headed(n, r)
		alone := of[:2] + string(bigEndian(castagnoli(r))) + r
		checkStands(t, "the record's sum", alone, 0)
		checkStands(t, "the right sum", of, 6+n, r)
	}
}

// bigEndian are four bytes, the greatest first.
func bigEndian(n uint32) []byte {
	return []byte{byte(n >> 24), byte(n >> 16), byte(n >> 8), byte(n)}
}

// P8.1: nothing stands in no bytes, in noughts, or in fewer bytes than the least record has.
func TestNothingStands(t *testing.T) {
	for n := range 300 {
		checkStands(t, "noughts", noughts(n), 0)
	}
	checkStands(t, "many noughts", noughts(4096*64), 0)
	least := written("a")
	for n := range 7 {
		checkStands(t, "a piece of the least record", least[:n], 0)
		checkStands(t, "ones", "\xff\xff\xff\xff\xff\xff\xff"[:n], 0)
		checkStands(t, "a length of 1", ("\x00\x01" + noughts(5))[:n], 0)
	}
	checkStands(t, "the least record", least, 7, "a")
	checkStands(t, "seven ones", "\xff\xff\xff\xff\xff\xff\xff", 0)
}

// P8.1: records of all lengths, alone, with noughts behind them, and with others.
func TestEachLengthStands(t *testing.T) {
	for _, n := range rightLengths() {
		r := counted(n, n)
		b := written(r)
		checkStands(t, "alone", b, n+6, r)
		checkStands(t, "with noughts", b+noughts(7), n+6, r)
		checkStands(t, "with bytes", b+"\xff\xff", n+6, r)
		checkStands(t, "twice", b+b, 2*n+12, r, r)
		checkStands(t, "behind another", written("x", r, "y"), n+20, "x", r, "y")
		checkStands(t, "of noughts", written(noughts(n)), n+6, noughts(n))
	}
}

// P8.1: a length of 0, or of more than MaxMessage, is none, also with its right sum and room.
func TestWrongLengths(t *testing.T) {
	room := counted(5, 70000)
	for _, n := range []int{0, longest + 1, longest + 2, 4096, 5000, 8192, 1<<15 - 1, 1 << 15, 1<<15 + 1, 1<<16 - 1} {
		b := headed(n, room[:n])
		checkStands(t, "a wrong length", b, 0)
		checkStands(t, "a wrong length with room", b+room, 0)
		checkStands(t, "a wrong length behind others", written("a", "bc")+b+written("d"), 15, "a", "bc")
	}
	checkStands(t, "the greatest length", headed(longest, room[:longest])+room, longest+6, room[:longest])
}

// P8.1: a record that goes just to the end stands; one that goes beyond it doesn't.
func TestBeyondTheEnd(t *testing.T) {
	for _, n := range rightLengths() {
		r := counted(n, n)
		ahead := written("ahead")
		whole := ahead + written(r)
		checkStands(t, "just to the end", whole, len(whole), "ahead", r)
		for missing := 1; missing <= n+6; missing++ {
			if missing > 10 && missing < n-10 {
				continue
			}
			checkStands(t, "beyond the end", whole[:len(whole)-missing], len(ahead), "ahead")
		}
	}
}

// P8.1: a record whose length goes beyond the end isn't told by the bytes that are there, though they have a sum that fits: with the length that stands, with their own, or of no bytes.
func TestCutRecordWithItsSum(t *testing.T) {
	for n := 2; n < 100; n++ {
		for there := range n {
			r := counted(n, there)
			length := string([]byte{0, byte(n)})
			for _, summed := range []string{length + r, string([]byte{0, byte(there)}) + r, "\x00\x00", ""} {
				b := length + string(bigEndian(castagnoli(summed))) + r
				checkStands(t, "cut, with a sum that fits", b, 0)
				checkStands(t, "cut, behind another one", written("a")+b, 7, "a")
			}
		}
	}
}

// P8.1: each bit of a record, of its length and of its sum, that is turned, is told; those ahead stand, those behind aren't told.
func TestTurnedBits(t *testing.T) {
	for _, n := range []int{1, 2, 57, 58, 59, 130, 300} {
		r := counted(n, n)
		ahead, b, behind := written("ahead", "of it"), written(r), written("behind", "it")
		checkStands(t, "no bit turned", ahead+b+behind, len(ahead+b+behind), "ahead", "of it", r, "behind", "it")
		for bit := range 8 * len(b) {
			checkStands(t, "a bit turned", ahead+turned(b, bit)+behind, len(ahead), "ahead", "of it")
		}
	}
}

// P8.1: records behind a place where none stands aren't told, however it comes that none does.
func TestBehindAHole(t *testing.T) {
	behind := written("one", "two")
	for _, hole := range []string{
		"\x00", noughts(6), noughts(64), "\xff", "\xff\xff", "x",
		headed(0, ""), headed(longest+1, counted(0, longest+1)),
		turned(written("three"), 0), turned(written("three"), 50), written("three")[:10], written("three")[1:],
	} {
		checkStands(t, "a hole at the beginning", hole+behind, 0)
		checkStands(t, "a hole", written("zero")+hole+behind, 10, "zero")
	}
}

// P8.1: what nobody appended stands by chance, if its sum happens to be right.
func TestByChance(t *testing.T) {
	// The sum is of noughts: so a tear may leave it.
	for _, n := range []int{4, 5, 60, 100, longest} {
		length := string([]byte{byte(n >> 8), byte(n)})
		r := summing(length + counted(n, n-4))[2:]
		b := length + noughts(4) + r
		checkStands(t, "by chance", b, n+6, r)
		checkStands(t, "by chance, and another one", b+written("x"), n+13, r, "x")
		checkStands(t, "by chance, behind another one", written("x")+b, n+13, "x", r)
	}
	within := written("within")
	checkStands(t, "within another one", written(within+"x"), len(within)+7, within+"x")
	checkStands(t, "what stood within another one", within+"x", len(within), "within")
}

// P8.1: many records, up to all that a disk has room for.
func TestManyStand(t *testing.T) {
	var want []string
	var b []byte
	for i := range 37449 {
		r := counted(i, 1)
		want = append(want, r)
		b = append(b, headed(1, r)...)
	}
	checkStands(t, "many", string(b)+"\x00", 7*37449, want...)
	records, end := log.Stands(crc.Make(), string(b))
	if len(records) != 37449 || end != len(b) {
		t.Errorf("%d records, the end %d", len(records), end)
	}
}

// P8.1: the sum is that of the table that is handed in.
func TestOtherTable(t *testing.T) {
	var other crc.Table
	for i := range other {
		other[i] = uint32(i) * 0x9e3779b1
	}
	sum := crc.Sum(other, "\x00\x03abc")
	b := "\x00\x03" + string(bigEndian(sum)) + "abc"
	records, end := log.Stands(other, b)
	checkRecords(t, "another table", records, []string{"abc"})
	if end != 9 {
		t.Errorf("the end is %d", end)
	}
	checkStands(t, "the other table's", b, 0)
	d := diskOf(t, 2, "")
	l, _, _ := log.Open(other, d)
	if e := l.Append("abc"); e != api.OK {
		t.Errorf("error %d", e)
	}
	checkDisk(t, "another table", d, b)
}

// P8.1: bytes at random, with records among them, held against the slow log's.
func TestStandsAtRandom(t *testing.T) {
	r := rand.New(rand.NewPCG(8, 1))
	for range 3000 {
		var b string
		for range r.IntN(6) {
			switch r.IntN(8) {
			case 0:
				b += noughts(r.IntN(10))
			case 1:
				b += randomBytes(r, r.IntN(10))
			case 2:
				b += headed(r.IntN(1<<16), randomBytes(r, r.IntN(200)))
			default:
				b += written(randomBytes(r, 1+r.IntN(150)))
			}
		}
		if len(b) > 0 && r.IntN(3) == 0 {
			b = turned(b, r.IntN(8*len(b)))
		}
		if r.IntN(3) == 0 {
			b = b[:r.IntN(len(b)+1)]
		}
		want, end := slowStands([]byte(b))
		checkStands(t, "at random", b, end, want...)
	}
}

// P8.1: what was told stays what it was, and two answers share nothing.
func TestToldRecordsStay(t *testing.T) {
	bytes := []byte(written("one", "two", "three"))
	b := string(bytes)
	first, _ := log.Stands(crc.Make(), b)
	second, _ := log.Stands(crc.Make(), b)
	kept := slices.Clone(first)
	second[0] = "x"
	_ = append(second[:1], "y")
	clear(bytes)
	checkRecords(t, "the first answer", first, kept)
	checkStands(t, "the bytes", b, len(b), "one", "two", "three")
}
