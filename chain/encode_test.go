package chain_test

import (
	"math/rand/v2"
	"slices"
	"strings"
	"testing"

	"isogloss/api"
	"isogloss/chain"
)

// P9.1: the chapter's example.
func TestExample(t *testing.T) {
	checkBytes(t, []api.Version{at(5, "ab")}, "\x01\x05\x00\x00\x00\x02\x61\x62")
}

// P9.1: bytes of chains of no version, of one, of two and of some, written out.
func TestWrittenOut(t *testing.T) {
	checkBytes(t, nil, "\x00")
	checkBytes(t, chainOf(""), "\x01"+"\x01\x00\x00\x00\x00")
	checkBytes(t, []api.Version{gone(1)}, "\x01"+"\x01\x01")
	checkBytes(t, []api.Version{gone(300)}, "\x01"+"\xac\x02\x01")
	checkBytes(t, []api.Version{gone(5), gone(6)}, "\x02"+"\x05\x01"+"\x01\x01")
	checkBytes(t, []api.Version{at(5, "ab"), gone(7)}, "\x02"+"\x05\x00\x00\x00\x02ab"+"\x02\x01")
	checkBytes(t, []api.Version{gone(7), at(8, "z")}, "\x02"+"\x07\x01"+"\x01\x00\x00\x00\x01z")
	checkBytes(t, []api.Version{at(3, "abcd"), at(303, "abXd")}, "\x02"+"\x03\x00\x00\x00\x04abcd"+"\xac\x02\x00\x02\x01\x01X")
	checkBytes(t,
		[]api.Version{at(1, "one"), gone(2), at(10, "once"), at(138, ""), gone(139), gone(140), at(141, "onc")},
		"\x07"+"\x01\x00\x00\x00\x03one"+"\x01\x01"+"\x08\x00\x02\x01\x01c"+"\x80\x01\x00\x00\x00\x00"+"\x01\x01"+"\x01\x01"+"\x01\x00\x00\x00\x03onc")
}

// P9.1: steps of time, by 1 and very great ones.
func TestSteps(t *testing.T) {
	const most = "\xff\xff\xff\xff\xff\xff\xff\xff\xff\x01" // 2^64 - 1
	checkBytes(t, []api.Version{gone(greatest)}, "\x01"+most+"\x01")
	checkBytes(t, []api.Version{gone(greatest - 1), gone(greatest)}, "\x02"+"\xfe"+most[1:]+"\x01"+"\x01\x01")
	checkBytes(t, []api.Version{gone(1), gone(greatest)}, "\x02"+"\x01\x01"+"\xfe"+most[1:]+"\x01")
	checkBytes(t, []api.Version{gone(1), gone(2), gone(129), gone(257)}, "\x04"+"\x01\x01"+"\x01\x01"+"\x7f\x01"+"\x80\x01\x01")
	checkBytes(t, []api.Version{gone(1 << 63), gone(1<<63 + 1<<62)}, "\x02"+"\x80\x80\x80\x80\x80\x80\x80\x80\x80\x01\x01"+"\x80\x80\x80\x80\x80\x80\x80\x80\x40\x01")
}

// checkSecond holds what the second of two values is told by.
func checkSecond(t *testing.T, base, value string, begins, ends int, between string) {
	t.Helper()
	first := "\x01\x00\x00\x00" + numberBytes(uint64(len(base))) + base
	told := "\x00" + numberBytes(uint64(begins)) + numberBytes(uint64(ends)) + numberBytes(uint64(len(between))) + between
	checkBytes(t, chainOf(base, value), "\x02"+first+"\x01"+told)
	checkBytes(t, []api.Version{at(1, base), gone(3), gone(4), at(5, value)}, "\x04"+first+"\x02\x01"+"\x01\x01"+"\x01"+told)
}

// P9.1: what a value shares with the base: nothing, its beginning, its end, both, all of it; longer ones and shorter ones.
func TestShared(t *testing.T) {
	checkSecond(t, "abc", "xyz", 0, 0, "xyz")
	checkSecond(t, "abc", "abc", 3, 0, "")
	checkSecond(t, "abc", "abd", 2, 0, "d")
	checkSecond(t, "abc", "xbc", 0, 2, "x")
	checkSecond(t, "abc", "aXc", 1, 1, "X")
	checkSecond(t, "abc", "abXYc", 2, 1, "XY")
	checkSecond(t, "abc", "abcd", 3, 0, "d")
	checkSecond(t, "abc", "zabc", 0, 3, "z")
	checkSecond(t, "abc", "ab", 2, 0, "")
	checkSecond(t, "abc", "bc", 0, 2, "")
	checkSecond(t, "abc", "ac", 1, 1, "")
	checkSecond(t, "abc", "b", 0, 0, "b")
	checkSecond(t, "abc", "cba", 0, 0, "cba")
	checkSecond(t, "abc", "", 0, 0, "")
	checkSecond(t, "", "", 0, 0, "")
	checkSecond(t, "", "abc", 0, 0, "abc")
	checkSecond(t, "\x00\x01", "\x00\x00\x01", 1, 1, "\x00")
	checkSecond(t, "a", strings.Repeat("b", 300)+"a", 0, 1, strings.Repeat("b", 300))
}

// P9.1: where beginning and end would both reach over the same bytes, of the value or of the base, the first has them.
func TestSharedTwice(t *testing.T) {
	checkSecond(t, "aaaa", "aaa", 3, 0, "")
	checkSecond(t, "aaaa", "aaaa", 4, 0, "")
	checkSecond(t, "aaaa", "aaaaa", 4, 0, "a")
	checkSecond(t, "aaa", "aaaaaa", 3, 0, "aaa")
	checkSecond(t, "abab", "ab", 2, 0, "")
	checkSecond(t, "ab", "abab", 2, 0, "ab")
	checkSecond(t, "aba", "ababa", 3, 0, "ba")
	checkSecond(t, "ababa", "aba", 3, 0, "")
	checkSecond(t, "aba", "abXba", 2, 1, "Xb")
	checkSecond(t, "abcbd", "abd", 2, 1, "")
	checkSecond(t, "abbc", "abc", 2, 1, "")
	checkSecond(t, "abc", "abbc", 2, 1, "b")
	checkSecond(t, "xaax", "xax", 2, 1, "")
	checkSecond(t, "xax", "xaax", 2, 1, "a")
	checkSecond(t, strings.Repeat("a", 200), strings.Repeat("a", 150), 150, 0, "")
	checkSecond(t, strings.Repeat("a", 150), strings.Repeat("a", 200), 150, 0, strings.Repeat("a", 50))
	checkSecond(t, strings.Repeat("a", 200)+"b", strings.Repeat("a", 130)+"b", 130, 1, "")
}

// P9.1: there is no base at first, nor behind versions that are gone; else it is the last value, also one of no bytes, and none from ahead of it.
func TestBase(t *testing.T) {
	checkBytes(t, []api.Version{gone(1), gone(2), at(3, "ab"), at(4, "ab")}, "\x04"+"\x01\x01"+"\x01\x01"+"\x01\x00\x00\x00\x02ab"+"\x01\x00\x02\x00\x00")
	checkBytes(t, []api.Version{at(1, "ab"), at(2, "xy"), gone(3), at(4, "ay")}, "\x04"+"\x01\x00\x00\x00\x02ab"+"\x01\x00\x00\x00\x02xy"+"\x01\x01"+"\x01\x00\x00\x01\x01a")
	checkBytes(t, []api.Version{at(1, "ab"), at(2, ""), at(3, "ab")}, "\x03"+"\x01\x00\x00\x00\x02ab"+"\x01\x00\x00\x00\x00"+"\x01\x00\x00\x00\x02ab")
	checkBytes(t, []api.Version{at(1, "ab"), at(2, ""), gone(3), at(4, "ab")}, "\x04"+"\x01\x00\x00\x00\x02ab"+"\x01\x00\x00\x00\x00"+"\x01\x01"+"\x01\x00\x00\x00\x02ab")
	checkBytes(t, []api.Version{at(1, "abc"), gone(2), at(3, "abd"), gone(4), at(5, "abd")}, "\x05"+"\x01\x00\x00\x00\x03abc"+"\x01\x01"+"\x01\x00\x02\x00\x01d"+"\x01\x01"+"\x01\x00\x03\x00\x00")
}

// P9.1: numbers of more than a byte: MaxVersions versions, and what is shared.
func TestGreatNumbers(t *testing.T) {
	var l []api.Version
	want := "\xc8\x01"
	for i := range uint64(200) {
		l = append(l, gone(i+1))
		want += "\x01\x01"
	}
	checkBytes(t, l, want)
	base := strings.Repeat("b", 300) + "mmm" + strings.Repeat("e", 200)
	checkSecond(t, base, strings.Repeat("b", 300)+"XY"+strings.Repeat("e", 200), 300, 200, "XY")
	checkSecond(t, base, strings.Repeat("b", 128)+strings.Repeat("e", 128), 128, 128, "")
}

// P9.1: what is no chain has no bytes.
func TestEncodeWrong(t *testing.T) {
	for _, l := range [][]api.Version{
		{{}}, {at(0, "ab")}, {gone(0)}, {at(5, "a"), at(5, "b")}, {at(5, "a"), at(4, "b")}, {at(1, "a"), gone(3), at(2, "b")},
		{{Time: 1, Gone: true, Value: "a"}}, {at(1, "a"), {Time: 2, Gone: true, Value: "a"}}, rising(201, 1), rising(500, 7),
	} {
		checkEncodeIs(t, l, "", api.ErrArg)
	}
}

// P9.1: values of any length have bytes, also those that Decode tells are too long.
func TestEncodeLong(t *testing.T) {
	for _, n := range []int{api.MaxValue + 1, api.MaxBytes, api.MaxBytes + 1, 100000} {
		long := strings.Repeat("v", n)
		size := numberBytes(uint64(n))
		checkEncodeIs(t, chainOf(long), "\x01"+"\x01\x00\x00\x00"+size+long, api.OK)
		checkEncodeIs(t, chainOf(long, long), "\x02"+"\x01\x00\x00\x00"+size+long+"\x01\x00"+size+"\x00\x00", api.OK)
	}
}

// P9.1: chains at random have the bytes that the slow Encode makes.
func TestEncodeAtRandom(t *testing.T) {
	r := rand.New(rand.NewPCG(9, 3))
	for range 20000 {
		l := randomChain(r, 8)
		want, e := slowEncode(l)
		checkEncodeIs(t, l, want, e)
	}
	for range 40 {
		l := randomChain(r, 260)
		want, e := slowEncode(l)
		checkEncodeIs(t, l, want, e)
	}
}

// P9.1, R5: what is handed in is left as it is, its spare room too.
func TestHandedInIsLeft(t *testing.T) {
	for _, l := range someChains() {
		room := append(slices.Clone(l), at(77, "spare"), gone(78))
		before := slices.Clone(room)
		lent := room[:len(l)]
		chain.Right(lent)
		chain.Encode(lent)
		for _, time := range []uint64{0, 1, 5, greatest} {
			chain.At(lent, time)
		}
		if !slices.Equal(room, before) {
			t.Errorf("%v became %v", briefly(before), briefly(room))
		}
	}
}

// P9.1, R7: calls don't hang on those ahead of them.
func TestCallsAreTheirOwn(t *testing.T) {
	for _, l := range someChains() {
		b := mustEncode(t, l)
		checkBytes(t, chainOf("q"), "\x01"+"\x01\x00\x00\x00\x01q")
		chain.Decode(b + "\x00")
		chain.Encode([]api.Version{{}})
		checkBytes(t, l, b)
	}
}
