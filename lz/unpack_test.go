package lz_test

import (
	"encoding/binary"
	"math/rand/v2"
	"strings"
	"testing"

	"isogloss/api"
	"isogloss/lz"
)

// made are packed bytes, of every kind, with the bytes that they make.
func made() []struct{ s, b string } {
	const ten = "0123456789"
	return []struct{ s, b string }{
		{"\x00\x00", ""},
		{"\x01\x00a", "a"},
		{"\x05\x00aaaaa", "aaaaa"},
		{"\x02\x00\x00\x01", "\x00\x01"},
		{stored(strings.Repeat("x", 300)), strings.Repeat("x", 300)},
		// One part, which is over behind its own bytes; there is one of no bytes, too.
		{"\x00\x01\x00", ""},
		{"\x01\x01\x01a", "a"},
		{packed(10, piece{own: ten}), ten},
		{packed(300, piece{own: distinct(300)}), distinct(300)},
		// Copies of what stands there, of what they make themselves, from as far as there are bytes, of just 4.
		{packed(5, piece{"a", 1, 4}), "aaaaa"},
		{packed(8, piece{"abcd", 4, 4}), "abcdabcd"},
		{packed(14, piece{ten, 10, 4}), ten + "0123"},
		{packed(14, piece{ten, 4, 4}), ten + "6789"},
		{packed(15, piece{ten, 2, 5}), ten + "89898"},
		{packed(11, piece{"ab", 2, 9}), "abababababa"},
		{packed(20, piece{ten, 10, 10}), ten + ten},
		{packed(25, piece{ten, 10, 15}), ten + ten + "01234"},
		// Parts with no bytes of their own ahead of a copy, and such as end with bytes of their own.
		{packed(14, piece{ten[:5], 5, 4}, piece{"", 1, 5}), "01234" + "0123" + "33333"},
		{packed(17, piece{"a", 1, 4}, piece{"", 5, 4}, piece{"", 9, 8}), strings.Repeat("a", 17)},
		{packed(8, piece{"ab", 2, 5}, piece{own: "Z"}), "abababaZ"},
		{packed(19, piece{"a", 1, 6}, piece{"bc", 9, 4}, piece{own: "the end"[:6]}), "aaaaaaabcaaaathe en"},
		// The greatest numbers.
		{packed(60000, piece{"a", 1, 59999}), strings.Repeat("a", 60000)},
		{packed(60000, piece{distinct(59996), 59996, 4}), distinct(59996) + distinct(4)},
		{packed(60000, piece{own: distinct(60000)}), distinct(60000)},
		{stored(distinct(60000)), distinct(60000)},
	}
}

// P4.1: packed bytes of every kind, those too that Pack wouldn't make.
func TestUnpackWrittenOut(t *testing.T) {
	for _, c := range made() {
		checkUnpackIs(t, c.s, c.b, api.OK)
		checkUnpack(t, c.s)
	}
}

// P4.1: a distance of 0, or of more than there are.
func TestUnpackDistance(t *testing.T) {
	checkUnpackIs(t, packed(12, piece{"abcd", 4, 8}), "abcdabcdabcd", api.OK)
	for _, d := range []int{0, 5, 6, 8, 12, 127, 128, 60000, 1 << 32, 1<<32 + 1, 1<<63 - 1} {
		checkForm(t, packed(12, piece{"abcd", d, 8}))
		checkForm(t, packed(12, piece{"", d, 12}))
		checkForm(t, packed(12, piece{"a", d + 2, 11}))
	}
	for _, d := range []int{1, 2, 8, 9} {
		checkForm(t, packed(13, piece{"", d, 4}, piece{own: "abcdabcda"}))
	}
	checkUnpackIs(t, packed(12, piece{"abcd", 1, 4}, piece{"", 8, 4}), "abcdddddabcd", api.OK)
	checkForm(t, packed(12, piece{"abcd", 1, 4}, piece{"", 9, 4}))
	for _, d := range []uint64{1 << 63, 1<<63 + 1, 1<<64 - 4, 1<<64 - 1} {
		checkForm(t, "\x0c\x01\x04abcd"+string(binary.AppendUvarint(nil, d))+"\x08")
	}
}

// P4.1: a length of less than 4, even if it is all that is missing, or past the end.
func TestUnpackLength(t *testing.T) {
	for n := range 4 {
		checkForm(t, "\x0a\x01\x04abcd\x04"+numberBytes(n))
		checkForm(t, numberBytes(4+n)+"\x01\x04abcd\x04"+numberBytes(n))
		checkForm(t, "\x0a\x01\x04abcd\x04"+numberBytes(n)+"\x06efghij")
		checkForm(t, "\x0a\x01\x04abcd\x04"+numberBytes(n)+numberBytes(6-n)+"efghij"[n:])
	}
	for _, n := range []int{4, 5} {
		checkUnpackIs(t, numberBytes(4+n)+"\x01\x04abcd\x04"+numberBytes(n), "abcdabcda"[:4+n], api.OK)
	}
	for _, n := range []int{7, 8, 100, 127, 128, 59990, 60000, 60001, 1 << 31, 1 << 32, 1<<32 + 6, 1<<63 - 1} {
		checkForm(t, packed(10, piece{"abcd", 4, n}))
		checkForm(t, packed(10, piece{"abcdef", 4, n}))
	}
	for _, n := range []uint64{1 << 63, 1<<64 - 4, 1<<64 - 1} {
		checkForm(t, "\x0a\x01\x04abcd\x04"+string(binary.AppendUvarint(nil, n)))
	}
}

// P4.1: more bytes of a part's own than are missing, or than stand there.
func TestUnpackOwnBytes(t *testing.T) {
	for _, s := range []string{
		"\x00\x01\x01a", "\x01\x01\x02ab", "\x05\x01\x06abcdef", packed(8, piece{"abc", 1, 4}, piece{own: "de"}),
		"\x05\x01\x05abcd", "\x05\x01\x04abcd", "\x05\x01\x04abcd\x01a", "\x05\x01\x7fabcde", "\x05\x01\x80\x01abcde",
		"\x05\x01" + string(binary.AppendUvarint(nil, 1<<64-1)) + "abcde", "\x05\x01" + numberBytes(1<<32+5) + "abcde", "\x05\x01" + numberBytes(1<<63-1) + "abcde",
	} {
		checkForm(t, s)
	}
}

// P4.1: bytes that stand there as they are, but are fewer or more than was said.
func TestUnpackStoredWrong(t *testing.T) {
	for _, s := range []string{
		"\x00\x00a", "\x01\x00", "\x01\x00ab", "\x05\x00abcd", "\x05\x00abcdef", "\x80\x01\x00" + strings.Repeat("a", 127),
		"\x80\x01\x00" + strings.Repeat("a", 129), numberBytes(60000) + "\x00" + strings.Repeat("a", 59999), numberBytes(60000) + "\x00" + strings.Repeat("a", 60001),
	} {
		checkForm(t, s)
	}
}

// P4.1: a byte behind the number that is neither 0 nor 1; and no part at all, or one more than there is.
func TestUnpackKinds(t *testing.T) {
	for kind := 2; kind < 256; kind++ {
		for _, rest := range []string{"", "\x00", "\x01a", "a", "\x05abcde", "abcde"} {
			checkForm(t, "\x00"+string([]byte{byte(kind)})+rest)
			checkForm(t, "\x01"+string([]byte{byte(kind)})+rest)
			checkForm(t, "\x05"+string([]byte{byte(kind)})+rest)
		}
	}
	for _, s := range []string{"", "\x00", "\x00\x01", "\x00\x01\x00\x00", "\x01\x01\x01a\x00", packed(5, piece{"a", 1, 4}, piece{})} {
		checkForm(t, s)
	}
}

// longer is a number in one byte more than it needs.
func longer(n int) string {
	b := []byte(numberBytes(n))
	b[len(b)-1] |= 0x80
	return string(b) + "\x00"
}

// P4.1: a number in more bytes than it needs, or of more than 64 bits, wherever it stands.
func TestUnpackNumbers(t *testing.T) {
	for _, s := range []string{
		longer(0) + "\x00", longer(1) + "\x00a", longer(300) + "\x00" + distinct(300),
		"\x05\x01" + longer(5) + "abcde", "\x05\x01" + longer(1) + "a\x01\x04", "\x05\x01\x01a" + longer(1) + "\x04", "\x05\x01\x01a\x01" + longer(4),
		"\x09\x01\x01a\x01\x04" + longer(0) + "\x01\x04", "\x00\x01" + longer(0),
		longer(5) + "\x01\x01a\x01\x04", longer(60000) + "\x01\x01a\x01" + numberBytes(59999),
	} {
		checkForm(t, s)
		checkUnpack(t, s)
	}
	nine := strings.Repeat("\xff", 9)
	for _, s := range []string{nine + "\x02", nine + "\xff\x01", nine + "\x81\x00", strings.Repeat("\x80", 9) + "\x02", nine, nine + "\x80"} {
		checkForm(t, s+"\x00")
		checkForm(t, s)
		checkForm(t, "\x05\x01"+s+"abcde")
		checkForm(t, "\x05\x01\x01a"+s+"\x04")
		checkForm(t, "\x05\x01\x01a\x01"+s)
	}
}

// P4.1: what says more than MaxBytes is too long, whatever follows; just so many aren't.
func TestUnpackTooLong(t *testing.T) {
	b := distinct(60001)
	for _, n := range []uint64{60001, 60002, 65536, 1<<31 - 1, 1 << 31, 1 << 32, 1<<32 + 5, 1<<63 - 1, 1 << 63, 1<<64 - 1} {
		for _, rest := range []string{
			"", "\x00", "\x01", "\x02", "\xff", "\x00" + b, "\x01\x00", "\x01\x01a\x01\x04", "\x01\x01a\x01" + numberBytes(60000), "\x01" + numberBytes(60001) + b,
			"\x00" + b[:5], "\x01\x80\x00", "\x80", "\x01\x01a\x00\x00",
		} {
			checkUnpackIs(t, string(binary.AppendUvarint(nil, n))+rest, "", api.ErrLong)
		}
	}
	checkUnpackIs(t, numberBytes(60001)[:2], "", api.ErrForm)
	checkUnpackIs(t, longer(60001)+"\x00"+b, "", api.ErrForm)
	checkUnpackIs(t, stored(b[:60000]), b[:60000], api.OK)
	checkForm(t, numberBytes(60000)+"\x02")
	checkForm(t, numberBytes(60000))
}

// wellFormed are packed bytes, not too long ones: those that are written out, and those that Pack makes.
func wellFormed(t *testing.T, most int) []string {
	var l []string
	for _, c := range made() {
		if len(c.s) <= most {
			l = append(l, c.s)
		}
	}
	for i, b := range texts() {
		if s := mustPack(t, b); len(s) <= most && i%9 == 0 {
			l = append(l, s)
		}
	}
	return l
}

// P4.1: packed bytes that are cut short at every place, or have one byte more behind.
func TestUnpackCutShortOrLonger(t *testing.T) {
	for _, s := range wellFormed(t, 400) {
		for i := range len(s) {
			checkForm(t, s[:i])
		}
		for i := range 256 {
			checkForm(t, s+string([]byte{byte(i)}))
		}
		checkForm(t, s+s)
	}
}

// P4.1: packed bytes of which any one is turned into any other.
func TestUnpackOneByteTurned(t *testing.T) {
	for _, s := range wellFormed(t, 60) {
		for i := range len(s) {
			turned := []byte(s)
			for range 255 {
				turned[i]++
				checkUnpack(t, string(turned))
			}
		}
	}
}

// P4.1: all bytes of up to two, and many of up to seven of which packed ones are made.
func TestUnpackShort(t *testing.T) {
	for i := range 256 {
		checkUnpack(t, string([]byte{byte(i)}))
		for j := range 256 {
			checkUnpack(t, string([]byte{byte(i), byte(j)}))
		}
	}
	const alphabet = "\x00\x01\x02\x04\x05\x06\x80"
	var grow func(s string)
	grow = func(s string) {
		checkUnpack(t, s)
		if len(s) == 7 {
			return
		}
		for i := range len(alphabet) {
			grow(s + alphabet[i:i+1])
		}
	}
	grow("")
}

// randomPieces are some parts, with the bytes that they make, put together one by one.
func randomPieces(r *rand.Rand) (string, []piece) {
	var b []byte
	var l []piece
	for i := range 1 + r.IntN(6) {
		p := piece{own: randomText(r, r.IntN(5), 256)}
		if i == 0 {
			p.own = randomText(r, 1+r.IntN(200), 256)
		}
		b = append(b, p.own...)
		p.distance, p.length = 1+r.IntN(len(b)), 4+r.IntN(200)
		for range p.length {
			b = append(b, b[len(b)-p.distance])
		}
		l = append(l, p)
	}
	if r.IntN(2) == 1 {
		own := randomText(r, 1+r.IntN(9), 256)
		b, l = append(b, own...), append(l, piece{own: own})
	}
	return string(b), l
}

// P4.1: random parts; and what is one byte less or more than these make.
func TestUnpackRandomParts(t *testing.T) {
	r := rand.New(rand.NewPCG(4, 5))
	for range 5000 {
		b, l := randomPieces(r)
		checkUnpackIs(t, packed(len(b), l...), b, api.OK)
		checkForm(t, packed(len(b)-1, l...))
		checkForm(t, packed(len(b)+1, l...))
		checkUnpack(t, packed(r.IntN(len(b)+9), l...))
	}
}

// P4.1: random bytes, and packed ones with some of them turned.
func TestUnpackRandom(t *testing.T) {
	r := rand.New(rand.NewPCG(4, 6))
	for range 50000 {
		checkUnpack(t, randomText(r, r.IntN(20), 10))
		b, l := randomPieces(r)
		s := []byte(packed(len(b), l...))
		for range 1 + r.IntN(3) {
			s[r.IntN(len(s))] = byte(r.IntN(256) >> r.IntN(8))
		}
		checkUnpack(t, string(s))
	}
}

// P4.2: what Pack made of what Unpack made makes the same bytes again, whoever packed them.
func TestUnpackedIsPackedAgain(t *testing.T) {
	for _, c := range made() {
		b, _ := lz.Unpack(c.s)
		checkUnpackIs(t, mustPack(t, b), c.b, api.OK)
	}
}
