package chain_test

import (
	"encoding/binary"
	"math/rand/v2"
	"slices"
	"strings"
	"testing"

	"isogloss/api"
	"isogloss/chain"
)

// greatest is the greatest time.
const greatest = 1<<64 - 1

// at is a version with a value.
func at(time uint64, value string) api.Version {
	return api.Version{Time: time, Value: value}
}

// gone is a version that is gone.
func gone(time uint64) api.Version {
	return api.Version{Time: time, Gone: true}
}

// chainOf is versions with these values, of the times 1, 2, and so on.
func chainOf(values ...string) []api.Version {
	var l []api.Version
	for i, v := range values {
		l = append(l, at(uint64(i+1), v))
	}
	return l
}

// rising are n versions whose times are step, twice step, and so on, each third one gone.
func rising(n int, step uint64) []api.Version {
	var l []api.Version
	for i := range n {
		v := at(uint64(i+1)*step, strings.Repeat("v", i%5))
		if i%3 == 2 {
			v = gone(v.Time)
		}
		l = append(l, v)
	}
	return l
}

// numberBytes are a number's bytes, as the library makes them.
func numberBytes(n uint64) string {
	return string(binary.AppendUvarint(nil, n))
}

// slowRight tells whether l is a chain, as the chapter's words tell it: each version is held against all ahead of it.
func slowRight(l []api.Version) bool {
	for i, v := range l {
		if v.Time < 1 || v.Gone && len(v.Value) > 0 {
			return false
		}
		for _, w := range l[:i] {
			if w.Time >= v.Time {
				return false
			}
		}
	}
	return len(l) < 201
}

// slowBase is the value of the last version that isn't gone; nothing, if there is none.
func slowBase(l []api.Version) string {
	for _, v := range slices.Backward(l) {
		if !v.Gone {
			return v.Value
		}
	}
	return ""
}

// slowShared is what a value shares with a base: of all that it may, the most is looked for, the beginning first.
func slowShared(value, base string) (begins, ends int) {
	for n := 0; n <= len(base); n++ {
		if strings.HasPrefix(value, base[:n]) {
			begins = n
		}
	}
	value, base = value[begins:], base[begins:]
	for n := 0; n <= len(base); n++ {
		if strings.HasSuffix(value, base[len(base)-n:]) {
			ends = n
		}
	}
	return begins, ends
}

// slowVersion are the bytes of the version that comes behind those ahead.
func slowVersion(v api.Version, ahead []api.Version) string {
	step := v.Time
	if len(ahead) > 0 {
		step -= ahead[len(ahead)-1].Time
	}
	if v.Gone {
		return numberBytes(step) + "\x01"
	}
	begins, ends := slowShared(v.Value, slowBase(ahead))
	between := v.Value[begins : len(v.Value)-ends]
	return numberBytes(step) + "\x00" + numberBytes(uint64(begins)) + numberBytes(uint64(ends)) + numberBytes(uint64(len(between))) + between
}

// slowEncode are the bytes of a chain.
func slowEncode(l []api.Version) (string, api.Errno) {
	if !slowRight(l) {
		return "", api.ErrArg
	}
	s := numberBytes(uint64(len(l)))
	for i, v := range l {
		s += slowVersion(v, l[:i])
	}
	return s, api.OK
}

// taker takes things from the front of some bytes, for the slow Decode.
type taker struct {
	s   string
	bad bool
}

// number takes a number, in however many bytes.
func (k *taker) number() uint64 {
	n, size := binary.Uvarint([]byte(k.s[:min(len(k.s), 11)]))
	if k.bad || size <= 0 {
		k.bad = true
		return 0
	}
	k.s = k.s[size:]
	return n
}

// bytes takes n bytes.
func (k *taker) bytes(n uint64) string {
	if k.bad || n > uint64(len(k.s)) {
		k.bad = true
		return ""
	}
	b := k.s[:n]
	k.s = k.s[n:]
	return b
}

// part takes what a base has from a place on, as far as to another one.
func (k *taker) part(base string, from, to uint64) string {
	if k.bad || from > to || to > uint64(len(base)) {
		k.bad = true
		return ""
	}
	return base[from:to]
}

// version takes a version, whatever it is told by.
func (k *taker) version(ahead []api.Version) api.Version {
	base := slowBase(ahead)
	v := api.Version{Time: k.number()}
	if len(ahead) > 0 {
		v.Time += ahead[len(ahead)-1].Time
	}
	v.Gone = k.bytes(1) == "\x01"
	if !v.Gone {
		begins, ends, all := k.number(), k.number(), uint64(len(base))
		between := k.bytes(k.number())
		v.Value = k.part(base, 0, begins) + between + k.part(base, max(begins, all-ends), all)
	}
	return v
}

// slowDecode is Decode as the chapter's words tell it: what was taken must have the bytes that it was taken of.
func slowDecode(b string) ([]api.Version, api.Errno) {
	k := &taker{s: b}
	count := k.number()
	if k.bad || count > 200 || numberBytes(count) != b[:len(b)-len(k.s)] {
		return nil, api.ErrForm
	}
	var l []api.Version
	all := 0
	for range count {
		from := k.s
		v := k.version(l)
		if k.bad || !slowRight(append(l, v)) || slowVersion(v, l) != from[:len(from)-len(k.s)] {
			return nil, api.ErrForm
		}
		all += len(v.Value)
		if all > 60000 {
			return nil, api.ErrLong
		}
		l = append(l, v)
	}
	if k.s != "" {
		return nil, api.ErrForm
	}
	return l, api.OK
}

// slowAt is the last version up to a time, each one asked.
func slowAt(l []api.Version, time uint64) (v api.Version, ok bool) {
	for _, w := range l {
		if w.Time <= time {
			v, ok = w, true
		}
	}
	return v, ok
}

// brief is as much of some bytes as a fault is told with.
func brief(s string) string {
	return s[:min(len(s), 60)]
}

// briefly is as much of some versions.
func briefly(l []api.Version) []api.Version {
	var few []api.Version
	for _, v := range l[:min(len(l), 5)] {
		v.Value = brief(v.Value)
		few = append(few, v)
	}
	return few
}

// checkEncodeIs holds that Encode answers just this.
func checkEncodeIs(t *testing.T, l []api.Version, want string, wantE api.Errno) {
	t.Helper()
	if got, e := chain.Encode(l); got != want || e != wantE {
		t.Errorf("Encode(%v, of %d): %x, error %d, not %x, error %d", briefly(l), len(l), brief(got), e, brief(want), wantE)
	}
}

// checkDecodeIs holds that Decode answers just this.
func checkDecodeIs(t *testing.T, b string, want []api.Version, wantE api.Errno) {
	t.Helper()
	if got, e := chain.Decode(b); !slices.Equal(got, want) || e != wantE {
		t.Errorf("Decode(%x, of %d): %v, of %d, error %d, not %v, of %d, error %d", brief(b), len(b), briefly(got), len(got), e, briefly(want), len(want), wantE)
	}
}

// checkBytes holds that these are a chain's bytes, both ways.
func checkBytes(t *testing.T, l []api.Version, b string) {
	t.Helper()
	checkEncodeIs(t, l, b, api.OK)
	checkDecodeIs(t, b, l, api.OK)
}

// checkForm holds that b is no chain's bytes.
func checkForm(t *testing.T, b string) {
	t.Helper()
	checkDecodeIs(t, b, nil, api.ErrForm)
}

// checkLong holds that b says values that are too long together.
func checkLong(t *testing.T, b string) {
	t.Helper()
	checkDecodeIs(t, b, nil, api.ErrLong)
}

// checkRight holds whether l is a chain, and that Encode says the same.
func checkRight(t *testing.T, l []api.Version, want bool) {
	t.Helper()
	if got := chain.Right(l); got != want {
		t.Errorf("Right(%v, of %d): %v", briefly(l), len(l), got)
	}
	if s, e := chain.Encode(l); (e == api.OK) != want || !want && (s != "" || e != api.ErrArg) {
		t.Errorf("Encode(%v, of %d): %x, error %d", briefly(l), len(l), brief(s), e)
	}
}

// checkAtIs holds that At answers just this.
func checkAtIs(t *testing.T, l []api.Version, time uint64, want api.Version, ok bool) {
	t.Helper()
	if got, gotOK := chain.At(l, time); got != want || gotOK != ok {
		t.Errorf("At(%v, of %d, %d): %v, %v, not %v, %v", briefly(l), len(l), time, got, gotOK, want, ok)
	}
}

// mustEncode are the bytes of what is a chain.
func mustEncode(t *testing.T, l []api.Version) string {
	t.Helper()
	b, e := chain.Encode(l)
	if e != api.OK {
		t.Fatalf("Encode(%v, of %d): error %d", briefly(l), len(l), e)
	}
	return b
}

// randomValue is a value at random, of few bytes, so that it shares with others; or made of one ahead.
func randomValue(r *rand.Rand, base string) string {
	b := make([]byte, r.IntN(7))
	for i := range b {
		b[i] = byte('a' + r.IntN(2))
	}
	from, to := r.IntN(len(base)+1), r.IntN(len(base)+1)
	switch r.IntN(5) {
	case 0:
		return base[:from] + string(b) + base[to:]
	case 1:
		return base[:min(from, to)] + string(b) + base[max(from, to):]
	case 2:
		return base
	}
	return string(b)
}

// randomChain is a chain at random, of at most n versions.
func randomChain(r *rand.Rand, n int) []api.Version {
	var l []api.Version
	var time uint64
	for range r.IntN(n + 1) {
		time += 1 + r.Uint64()>>(8+r.IntN(56))
		v := at(time, randomValue(r, slowBase(l)))
		if r.IntN(4) == 0 {
			v = gone(time)
		}
		l = append(l, v)
	}
	return l
}

// someChains are chains of many kinds.
func someChains() [][]api.Version {
	l := [][]api.Version{
		nil, chainOf(""), chainOf("ab"), {at(5, "ab")}, {gone(1)}, {gone(greatest)}, {at(greatest, "z")},
		{at(1, "a"), at(greatest, "b")}, {gone(1), gone(2), gone(3)}, {gone(3), at(4, "a"), gone(300), at(301, "ab")},
		chainOf("", "", ""), chainOf("a", "a", "a"), chainOf("ab", "", "ab"), chainOf("abcabc", "abc", "abcabcabc"),
		chainOf("aaaa", "aaa", "aaaaaa", "a"), chainOf("\x00", "\x00\x01", "\x01"), chainOf("ä", "ö", "äö"),
		chainOf(strings.Repeat("x", 127), strings.Repeat("x", 128), strings.Repeat("x", 129)),
		{at(127, "k"), at(254, "kk"), at(382, "kkk"), gone(1 << 40), at(1<<40+1, "kkkk")},
		rising(199, 1), rising(200, 1), rising(200, 1000), rising(200, 1<<56),
	}
	r := rand.New(rand.NewPCG(9, 1))
	for range 200 {
		l = append(l, randomChain(r, 12))
	}
	return l
}
