package lz_test

import (
	"encoding/binary"
	"math/rand/v2"
	"strings"
	"testing"

	"isogloss/api"
	"isogloss/lz"
)

// numberBytes are a number's bytes, as the library makes them.
func numberBytes(n int) string {
	return string(binary.AppendUvarint(nil, uint64(n)))
}

// stored are the packed bytes of b that hold it as it is.
func stored(b string) string {
	return numberBytes(len(b)) + "\x00" + b
}

// piece is a part: bytes of its own, and, if its length isn't 0, a copy.
type piece struct {
	own              string
	distance, length int
}

// packed are the packed bytes that say all, and have these parts.
func packed(all int, parts ...piece) string {
	s := numberBytes(all) + "\x01"
	for _, p := range parts {
		s += numberBytes(len(p.own)) + p.own
		if p.length > 0 {
			s += numberBytes(p.distance) + numberBytes(p.length)
		}
	}
	return s
}

// taker takes bytes from the front of some, for the slow Unpack of the tests.
type taker struct {
	s   string
	bad bool
}

// number takes a number, if it stands there as short as can be.
func (k *taker) number() uint64 {
	n, size := binary.Uvarint([]byte(k.s[:min(len(k.s), 11)]))
	if k.bad || size <= 0 || string(binary.AppendUvarint(nil, n)) != k.s[:size] {
		k.bad = true
		return 0
	}
	k.s = k.s[size:]
	return n
}

// bytes takes n bytes, if they stand there.
func (k *taker) bytes(n uint64) string {
	if k.bad || n > uint64(len(k.s)) {
		k.bad = true
		return ""
	}
	b := k.s[:n]
	k.s = k.s[n:]
	return b
}

// slowUnpack is Unpack as the chapter's words tell it, copies made by repeating what stands there.
func slowUnpack(s string) (string, api.Errno) {
	k := &taker{s: s}
	all := k.number()
	if k.bad {
		return "", api.ErrForm
	}
	if all > api.MaxBytes {
		return "", api.ErrLong
	}
	b := ""
	switch kind := k.bytes(1); kind {
	case "\x00":
		b = k.bytes(all)
	case "\x01":
		for first := true; !k.bad && (first || uint64(len(b)) < all); first = false {
			b = slowPart(k, b, all)
		}
	default:
		k.bad = true
	}
	if k.bad || k.s != "" || uint64(len(b)) != all {
		return "", api.ErrForm
	}
	return b, api.OK
}

// slowPart is b, and what one part makes behind it.
func slowPart(k *taker, b string, all uint64) string {
	b += k.bytes(k.number())
	if uint64(len(b)) >= all {
		return b
	}
	distance, length := k.number(), k.number()
	if k.bad || distance == 0 || distance > uint64(len(b)) || length < 4 || length > api.MaxBytes {
		k.bad = true
		return ""
	}
	again := b[uint64(len(b))-distance:]
	return b + strings.Repeat(again, int(length/distance)+1)[:length]
}

// brief is as much of some bytes as a fault is told with.
func brief(s string) string {
	return s[:min(len(s), 40)]
}

// checkUnpack holds what Unpack answers of any bytes against what the slow one does.
func checkUnpack(t *testing.T, s string) {
	t.Helper()
	want, wantE := slowUnpack(s)
	if got, e := lz.Unpack(s); got != want || e != wantE {
		t.Errorf("Unpack(%x, of %d): %x, error %d, not %x, error %d", brief(s), len(s), brief(got), e, brief(want), wantE)
	}
}

// checkUnpackIs holds that Unpack answers just this.
func checkUnpackIs(t *testing.T, s, want string, wantE api.Errno) {
	t.Helper()
	if got, e := lz.Unpack(s); got != want || e != wantE {
		t.Errorf("Unpack(%x, of %d): %x, error %d, not %x, error %d", brief(s), len(s), brief(got), e, brief(want), wantE)
	}
}

// checkForm holds that s is no packed bytes.
func checkForm(t *testing.T, s string) {
	t.Helper()
	checkUnpackIs(t, s, "", api.ErrForm)
}

// mustPack is what Pack makes of bytes that aren't too long.
func mustPack(t *testing.T, b string) string {
	t.Helper()
	s, e := lz.Pack(b)
	if e != api.OK {
		t.Fatalf("Pack of %d bytes: error %d", len(b), e)
	}
	return s
}

// randomText are n random bytes, of so many values.
func randomText(r *rand.Rand, n, values int) string {
	b := make([]byte, n)
	for i := range b {
		b[i] = byte(r.IntN(values))
	}
	return string(b)
}

// distinct are n bytes of which no four come again.
func distinct(n int) string {
	var b strings.Builder
	for i := 0; b.Len() < n; i++ {
		b.Write([]byte{byte(i >> 8), byte(i), 0xfe, 0xff})
	}
	return b.String()[:n]
}

// texts are bytes that are packed: none, few, those that come again near, far, or not at all, and as many as may be.
func texts() []string {
	l := []string{
		"", "a", "ab", "abc", "abcd", "abcdabcd", "abcdXabcd", "abcdabc", "aaaa", "aaaaa", "aaaaaa", "abababab", "\x00\x00\x00\x00\x00\x00",
		"abcdeabcdeZ", "abcdabcdZ", "abcdefghabcdefgh", "abcdefghXabcdefgh", "ababXababYababZ", "the same, the same, and then the same",
		"äöäöäöäöäö", distinct(256), distinct(1000), distinct(1000) + distinct(1000), distinct(60000), "z" + distinct(29999) + "y" + distinct(29999),
	}
	for n := range 260 {
		l = append(l, strings.Repeat("a", n), strings.Repeat("abc", n), strings.Repeat("abcde", n), distinct(n))
	}
	for _, n := range []int{16383, 16384, 16385, 20000, 30001, 59999, 60000} {
		l = append(l, strings.Repeat("a", n), strings.Repeat("0123456789", n/10+1)[:n])
	}
	r := rand.New(rand.NewPCG(4, 1))
	for n := range 300 {
		for _, values := range []int{2, 3, 8, 256} {
			l = append(l, randomText(r, n, values))
		}
	}
	for _, values := range []int{1, 2, 4, 16, 40, 100, 256} {
		l = append(l, randomText(r, 5000, values), randomText(r, 60000, values))
	}
	far := randomText(r, 30000, 256)
	return append(l, far+far, far+"x"+far[:29999], far[:20000]+strings.Repeat("q", 20000)+far[:20000])
}
