package chain_test

import (
	"strings"
	"testing"

	"isogloss/api"
	"isogloss/chain"
)

// filled are chains whose values have n bytes together, n being great: in one value, in many, shared and not, with some gone.
func filled(n int) [][]api.Version {
	long := func(length int) string { return strings.Repeat("v", length) }
	many := make([]string, 200)
	for i := range many {
		many[i] = strings.Repeat(string([]byte{byte(i)}), n/200)
	}
	many[77] += long(n % 200)
	same := make([]string, 200)
	for i := range same {
		same[i] = long(n / 200)
	}
	same[199] += long(n % 200)
	return [][]api.Version{
		chainOf(long(n)), chainOf("", long(n)), chainOf(long(n), ""), chainOf("a", long(n-1)), chainOf(long(n-1), "a"),
		chainOf(long(n/2), long(n-n/2)), chainOf(long(n/2)+"x", "y"+long(n-n/2-2)), chainOf(many...), chainOf(same...),
		{gone(1), at(2, long(n-3)), gone(3), gone(4), at(5, "abc"), gone(6)},
		{at(1, long(n/3)), gone(2), at(3, long(n/3)), gone(4), at(5, long(n-n/3-n/3)), gone(greatest)},
	}
}

// P9.1: values of MaxBytes bytes together, and of one fewer, are told; of one more they are too long.
func TestLong(t *testing.T) {
	for i := range filled(api.MaxBytes) {
		for _, n := range []int{api.MaxBytes - 1, api.MaxBytes} {
			l := filled(n)[i]
			checkDecodeIs(t, mustEncode(t, l), l, api.OK)
		}
		for _, n := range []int{api.MaxBytes + 1, api.MaxBytes + 2, api.MaxBytes + 500, 2 * api.MaxBytes} {
			checkLong(t, mustEncode(t, filled(n)[i]))
		}
	}
}

// P9.1: what a value shares with the base is of its bytes: few bytes that say very many are too long.
func TestLongShared(t *testing.T) {
	base := strings.Repeat("v", 600)
	head := func(count uint64) string { return numberBytes(count) + "\x01\x00\x00\x00" + numberBytes(600) + base }
	same := "\x01\x00" + numberBytes(600) + "\x00\x00"
	checkDecodeIs(t, head(100)+strings.Repeat(same, 99), chainOf(repeated(base, 100)...), api.OK)
	checkDecodeIs(t, head(101)+strings.Repeat(same, 99)+"\x01\x00\x00\x00\x00", chainOf(append(repeated(base, 100), "")...), api.OK)
	checkLong(t, head(101)+strings.Repeat(same, 99)+"\x01\x00\x01\x00\x00")
	checkLong(t, head(101)+strings.Repeat(same, 99)+"\x01\x00\x00\x00\x01w")
	checkLong(t, head(101)+strings.Repeat(same, 100))
	checkLong(t, head(200)+strings.Repeat(same, 199))
	checkLong(t, head(101)+strings.Repeat(same, 98)+"\x01\x00"+numberBytes(599)+"\x00\x02xy"+"\x01\x00\x00\x00\x00")
}

// repeated is a text n times.
func repeated(s string, n int) []string {
	l := make([]string, n)
	for i := range l {
		l[i] = s
	}
	return l
}

// tooLong are beginnings of chains' bytes, of count versions, that end where their values have become too long.
func tooLong(count uint64) []string {
	long := strings.Repeat("v", api.MaxBytes)
	size := numberBytes(api.MaxBytes)
	return []string{
		numberBytes(count) + "\x01\x00\x00\x00" + numberBytes(api.MaxBytes+1) + long + "v",
		numberBytes(count) + "\x01\x00\x00\x00" + size + long + "\x01\x00\x01\x00\x00",
		numberBytes(count) + "\x01\x00\x00\x00" + size + long + "\x01\x01" + "\x01\x00" + size + "\x00\x01x",
		numberBytes(count) + "\x01\x00\x00\x00\x01a" + "\x07\x00\x00\x00" + size + long,
	}
}

// wrongBehind are bytes that are none's behind a chain's beginning: a step of 0, one too far, numbers cut short, and more.
func wrongBehind() []string {
	return []string{
		"", "\x00", "\x00\x01", "\x01", "\x01\x02", "\x01\xff", "\x80", "\x80\x00", "\x01\x00\xff", "\x01\x00\x80\x00\x00", "\x01\x00\x00\x00\x05ab",
		numberBytes(greatest) + "\x01", "\x01\x00" + numberBytes(greatest) + "\x00\x00", "\x01\x00\x00" + numberBytes(greatest) + "\x00",
		"\x01\x00\x00\x00" + numberBytes(greatest), "\x01\x00\x00\x00\x01v", "\x01\x01\x01\x01\x01\x01\x01\x01\x01\x01", strings.Repeat("\xff", 300),
	}
}

// P9.1: once values are too long that is told, ahead of all that follows, and though nothing does.
func TestLongAheadOfWhatFollows(t *testing.T) {
	for _, count := range []uint64{3, 4, 100, 200} {
		for _, b := range tooLong(count) {
			for _, behind := range wrongBehind() {
				checkLong(t, b+behind)
			}
		}
	}
	checkLong(t, tooLong(1)[0])
	checkLong(t, tooLong(1)[0]+"\x00")
	checkLong(t, tooLong(2)[1])
	checkLong(t, tooLong(2)[1]+"\xff")
}

// P9.1: what isn't so ahead of that is told ahead of it.
func TestFormAheadOfLong(t *testing.T) {
	long := "\x01\x00\x00\x00" + numberBytes(api.MaxBytes+1) + strings.Repeat("v", api.MaxBytes+1)
	checkLong(t, "\x02"+"\x01\x01"+long)
	checkLong(t, "\x03"+"\x01\x00\x00\x00\x01a"+"\x01\x00\x01\x00\x00"+long)
	for _, wrong := range []string{
		"\x02" + "\x00\x01", "\x02" + "\x01\x02", "\x02" + "\x01\x00\x01\x00\x00", "\x02" + "\x80\x00\x01", "\x02" + numberBytes(greatest) + "\x01",
		"\x03" + "\x01\x00\x00\x00\x01a" + "\x01\x00\x00\x00\x01a", "\x03" + "\x01\x00\x00\x00\x01a" + "\x01\x00\x00\x01\x00",
		"\x82\x00" + "\x01\x01", "\xc9\x01" + "\x01\x01", numberBytes(greatest) + "\x01\x01", "\x00", "",
	} {
		checkForm(t, wrong+long)
	}
	checkForm(t, "\x01"+"\x00"+long[1:])
	checkForm(t, "\x01"+"\x01\x00\x01"+long[3:])
	checkForm(t, "\xc9\x01"+long)
}

// P9.1: values are too long where the one with which they are is whole; cut ahead of that it is no chain's bytes.
func TestLongCut(t *testing.T) {
	for _, b := range tooLong(9) {
		for _, cut := range []int{1, 2, 5, 100, 30000, len(b) - 300, len(b) - 7, len(b) - 6, len(b) - 5, len(b) - 4, len(b) - 3, len(b) - 2, len(b) - 1} {
			checkForm(t, b[:cut])
		}
		checkLong(t, b)
	}
}

// P9.1: of each cut of a chain whose values become too long within it, just those behind that place are too long.
func TestLongEachCut(t *testing.T) {
	base := strings.Repeat("v", 6000)
	l := append(chainOf(repeated(base, 10)...), at(20, "x"), gone(21), at(22, "y"))
	b := mustEncode(t, l)
	place := len(b) - len("\x01\x01") - len("\x01\x00\x00\x00\x01y")
	for cut := len(b) - 100; cut <= len(b); cut++ {
		if cut < place {
			checkForm(t, b[:cut])
		} else {
			checkLong(t, b[:cut])
		}
	}
	if got, e := chain.Decode("\x0a" + b[1:place-len("\x0a\x00\x00\x00\x01x")]); e != api.OK || len(got) != 10 {
		t.Errorf("of ten: %d, error %d", len(got), e)
	}
}
