package block_test

import (
	"encoding/binary"
	"hash/crc32"
	"math/rand/v2"
	"slices"
	"strings"
	"testing"

	"isogloss/api"
	"isogloss/block"
	"isogloss/chain"
	"isogloss/crc"
	"isogloss/lz"
)

// greatest is the greatest number.
const greatest = 1<<64 - 1

// at is a version with a value.
func at(time uint64, value string) api.Version {
	return api.Version{Time: time, Value: value}
}

// gone is a version that is gone.
func gone(time uint64) api.Version {
	return api.Version{Time: time, Gone: true}
}

// with is an entry.
func with(key string, versions ...api.Version) block.Entry {
	return block.Entry{Key: key, Chain: versions}
}

// goneAt1 is the bytes of a chain of one version, of time 1, that is gone, as they stand in an inside.
const goneAt1 = "\x03" + "\x01\x01\x01"

// keyed are entries with these keys, each with that chain.
func keyed(keys ...string) []block.Entry {
	var l []block.Entry
	for _, key := range keys {
		l = append(l, with(key, gone(1)))
	}
	return l
}

// numberBytes are a number's bytes, as the library makes them.
func numberBytes[N int | uint64](n N) string {
	return string(binary.AppendUvarint(nil, uint64(n)))
}

// textBytes are a text's bytes.
func textBytes(s string) string {
	return numberBytes(len(s)) + s
}

// sumBytes are the four bytes of the sum of some, as the library makes it.
func sumBytes(b string) string {
	sum := crc32.Checksum([]byte(b), crc32.MakeTable(crc32.Castagnoli))
	return string(binary.BigEndian.AppendUint32(nil, sum))
}

// summed are bytes with their sum behind them.
func summed(packed string) string {
	return packed + sumBytes(packed)
}

// stored are a block's bytes of this inside, whatever it is, held as it is.
func stored(inside string) string {
	return summed(numberBytes(len(inside)) + "\x00" + inside)
}

// inParts are a block's bytes of this inside, held in one part.
func inParts(inside string) string {
	return summed(numberBytes(len(inside)) + "\x01" + textBytes(inside))
}

// packed are a block's bytes of this inside, as layer 4 packs it.
func packed(t *testing.T, inside string) string {
	t.Helper()
	s, e := lz.Pack(inside)
	if e != api.OK {
		t.Fatalf("Pack of %d bytes: error %d", len(inside), e)
	}
	return summed(s)
}

// slowShared is how many bytes a key begins with as the last one does: of all that it may, the most is looked for.
func slowShared(key, last string) int {
	most := 0
	for n := range len(last) + 1 {
		if strings.HasPrefix(key, last[:n]) {
			most = n
		}
	}
	return most
}

// slowRises tells whether each key is above all ahead of it.
func slowRises(keys []string) bool {
	for i, key := range keys {
		for _, ahead := range keys[:i] {
			if strings.Compare(ahead, key) >= 0 {
				return false
			}
		}
	}
	return true
}

// slowJoined is what an inside would be of these keys and chains' bytes, whatever these are.
func slowJoined(keys, chains []string) string {
	s := numberBytes(len(keys))
	last := ""
	for i, key := range keys {
		n := slowShared(key, last)
		s += numberBytes(n) + textBytes(key[n:]) + textBytes(chains[i])
		last = key
	}
	return s
}

// slowInside is Inside as the chapter's words tell it.
func slowInside(l []block.Entry) (string, api.Errno) {
	var keys, chains []string
	for _, entry := range l {
		b, e := chain.Encode(entry.Chain)
		if e != api.OK || len(entry.Chain) < 1 {
			return "", api.ErrArg
		}
		keys, chains = append(keys, entry.Key), append(chains, b)
	}
	if !slowRises(keys) {
		return "", api.ErrArg
	}
	return slowJoined(keys, chains), api.OK
}

// taker takes things from the front of some bytes, for the slow Decode.
type taker struct {
	s   string
	bad bool
}

// number takes a number, in however many bytes.
func (k *taker) number() uint64 {
	n, size := binary.Uvarint([]byte(k.s[:min(len(k.s), 11)]))
	if k.bad || size <= 0 {
		k.bad = true
		return 0
	}
	k.s = k.s[size:]
	return n
}

// text takes a text.
func (k *taker) text() string {
	n := k.number()
	if k.bad || n > uint64(len(k.s)) {
		k.bad = true
		return ""
	}
	b := k.s[:n]
	k.s = k.s[n:]
	return b
}

// beginning is what a text begins with.
func (k *taker) beginning(s string, n uint64) string {
	if k.bad || n > uint64(len(s)) {
		k.bad = true
		return ""
	}
	return s[:n]
}

// slowEntries are the entries that have this inside: what was taken, whatever it is told by, must make just it again.
func slowEntries(inside string) ([]block.Entry, api.Errno) {
	k := &taker{s: inside}
	var keys, chains []string
	last := ""
	for count := k.number(); uint64(len(keys)) < count && !k.bad; {
		last = k.beginning(last, k.number()) + k.text()
		keys, chains = append(keys, last), append(chains, k.text())
	}
	if k.bad || k.s != "" || slowJoined(keys, chains) != inside || !slowRises(keys) {
		return nil, api.ErrForm
	}
	return slowChains(keys, chains)
}

// slowChains are the entries with these keys and chains' bytes: first it is asked of all whether they are some, then of all whether they are too long.
func slowChains(keys, chains []string) ([]block.Entry, api.Errno) {
	var l []block.Entry
	long := false
	for i, key := range keys {
		versions, e := chain.Decode(chains[i])
		if e == api.ErrForm || e == api.OK && len(versions) == 0 {
			return nil, api.ErrForm
		}
		long = long || e == api.ErrLong
		l = append(l, with(key, versions...))
	}
	if long {
		return nil, api.ErrLong
	}
	return l, api.OK
}

// slowDecode is Decode as the chapter's words tell it.
func slowDecode(b string) ([]block.Entry, api.Errno) {
	if len(b) < 4 || sumBytes(b[:len(b)-4]) != b[len(b)-4:] {
		return nil, api.ErrForm
	}
	inside, e := lz.Unpack(b[:len(b)-4])
	if e != api.OK {
		return nil, e
	}
	return slowEntries(inside)
}

// same tells whether two entries have the same key, and the same versions.
func same(a, b block.Entry) bool {
	return a.Key == b.Key && slices.Equal(a.Chain, b.Chain)
}

// deepClone is the same entries, sharing no list.
func deepClone(l []block.Entry) []block.Entry {
	var other []block.Entry
	for _, entry := range l {
		other = append(other, with(entry.Key, slices.Clone(entry.Chain)...))
	}
	return other
}

// brief is as much of some bytes as a fault is told with.
func brief(s string) string {
	return s[:min(len(s), 60)]
}

// briefly is as much of some entries.
func briefly(l []block.Entry) []block.Entry {
	var few []block.Entry
	for _, entry := range l[:min(len(l), 4)] {
		short := with(brief(entry.Key))
		for _, v := range entry.Chain[:min(len(entry.Chain), 3)] {
			v.Value = brief(v.Value)
			short.Chain = append(short.Chain, v)
		}
		few = append(few, short)
	}
	return few
}

// checkInsideIs holds that Inside answers just this.
func checkInsideIs(t *testing.T, l []block.Entry, want string, wantE api.Errno) {
	t.Helper()
	if got, e := block.Inside(l); got != want || e != wantE {
		t.Errorf("Inside(%v, of %d): %x, error %d, not %x, error %d", briefly(l), len(l), brief(got), e, brief(want), wantE)
	}
}

// checkEncodeIs holds that Encode answers just this.
func checkEncodeIs(t *testing.T, l []block.Entry, want string, wantE api.Errno) {
	t.Helper()
	if got, e := block.Encode(crc.Make(), l); got != want || e != wantE {
		t.Errorf("Encode(%v, of %d): %x, error %d, not %x, error %d", briefly(l), len(l), brief(got), e, brief(want), wantE)
	}
}

// checkDecodeIs holds that Decode answers just this.
func checkDecodeIs(t *testing.T, b string, want []block.Entry, wantE api.Errno) {
	t.Helper()
	if got, e := block.Decode(crc.Make(), b); !slices.EqualFunc(got, want, same) || e != wantE {
		t.Errorf("Decode(%x, of %d): %v, of %d, error %d, not %v, of %d, error %d", brief(b), len(b), briefly(got), len(got), e, briefly(want), len(want), wantE)
	}
}

// checkBlock holds that a block has this inside, and these bytes of it, and comes again of them, however they are packed.
func checkBlock(t *testing.T, l []block.Entry, inside string) {
	t.Helper()
	checkInsideIs(t, l, inside, api.OK)
	checkEncodeIs(t, l, packed(t, inside), api.OK)
	checkDecodeIs(t, packed(t, inside), l, api.OK)
	checkDecodeIs(t, stored(inside), l, api.OK)
	checkDecodeIs(t, inParts(inside), l, api.OK)
}

// checkArg holds that these entries are no block.
func checkArg(t *testing.T, l []block.Entry) {
	t.Helper()
	checkInsideIs(t, l, "", api.ErrArg)
	checkEncodeIs(t, l, "", api.ErrArg)
}

// checkForm holds that b is no block's bytes.
func checkForm(t *testing.T, b string) {
	t.Helper()
	checkDecodeIs(t, b, nil, api.ErrForm)
}

// checkNone holds that this is no entries' inside.
func checkNone(t *testing.T, inside string) {
	t.Helper()
	checkForm(t, stored(inside))
	checkForm(t, packed(t, inside))
}

// checkLong holds that a chain of this inside has values that are too long.
func checkLong(t *testing.T, inside string) {
	t.Helper()
	checkDecodeIs(t, stored(inside), nil, api.ErrLong)
	checkDecodeIs(t, packed(t, inside), nil, api.ErrLong)
}

// mustInside is the inside of what is a block.
func mustInside(t *testing.T, l []block.Entry) string {
	t.Helper()
	s, e := block.Inside(l)
	if e != api.OK {
		t.Fatalf("Inside(%v, of %d): error %d", briefly(l), len(l), e)
	}
	return s
}

// mustEncode are bytes of what is a block.
func mustEncode(t *testing.T, l []block.Entry) string {
	t.Helper()
	b, e := block.Encode(crc.Make(), l)
	if e != api.OK {
		t.Fatalf("Encode(%v, of %d): error %d", briefly(l), len(l), e)
	}
	return b
}

// randomText are at most n bytes at random, of few kinds.
func randomText(r *rand.Rand, n int) string {
	b := make([]byte, r.IntN(n+1))
	for i := range b {
		b[i] = "ab\x00\xff\x80"[r.IntN(5)]
	}
	return string(b)
}

// randomVersions are a chain at random, of at least one version.
func randomVersions(r *rand.Rand) []api.Version {
	var l []api.Version
	var time uint64
	for range 1 + r.IntN(4) {
		time += 1 + r.Uint64()>>(8+r.IntN(56))
		if r.IntN(4) == 0 {
			l = append(l, gone(time))
		} else {
			l = append(l, at(time, randomText(r, 5)))
		}
	}
	return l
}

// randomBlock is a block at random, of at most n entries.
func randomBlock(r *rand.Rand, n int) []block.Entry {
	var keys []string
	for range r.IntN(n + 1) {
		key := randomText(r, 4)
		if len(keys) > 0 && r.IntN(2) == 0 {
			key = keys[r.IntN(len(keys))] + key
		}
		keys = append(keys, key)
	}
	slices.Sort(keys)
	var l []block.Entry
	for _, key := range slices.Compact(keys) {
		l = append(l, with(key, randomVersions(r)...))
	}
	return l
}

// someBlocks are blocks of many kinds.
func someBlocks() [][]block.Entry {
	many := func(n int) []block.Entry {
		var l []block.Entry
		for i := range n {
			l = append(l, with("k"+string([]byte{byte(i >> 8), byte(i)}), at(uint64(i+1), strings.Repeat("v", i%7)), gone(uint64(i+2))))
		}
		return l
	}
	l := [][]block.Entry{
		nil, keyed(""), keyed("a"), keyed("", "a"), keyed("a", "b"), keyed("a", "aa", "ab", "b"), keyed("\x00", "\x00\x00", "\x01", "\x80", "\xff", "\xff\xff"),
		keyed(strings.Repeat("x", 127), strings.Repeat("x", 128), strings.Repeat("x", 300)), {with("k", at(5, "ab"), gone(7), at(greatest, "abc"))},
		{with("", at(1, "")), with("ä", at(1, "ö"), at(2, "öö"))}, {with("long", at(1, strings.Repeat("v", 50000)))}, many(127), many(128), many(400),
	}
	r := rand.New(rand.NewPCG(10, 1))
	for range 200 {
		l = append(l, randomBlock(r, 9))
	}
	return l
}
