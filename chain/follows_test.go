package chain_test

import (
	"math/rand/v2"
	"slices"
	"strings"
	"testing"

	"isogloss/api"
	"isogloss/chain"
)

// P9.3, P3: a chain comes again of its bytes.
func TestComesAgain(t *testing.T) {
	for _, l := range someChains() {
		checkDecodeIs(t, mustEncode(t, l), l, api.OK)
	}
	r := rand.New(rand.NewPCG(9, 6))
	for range 20000 {
		l := randomChain(r, 9)
		checkDecodeIs(t, mustEncode(t, l), l, api.OK)
	}
	for range 100 {
		l := randomChain(r, api.MaxVersions)
		checkDecodeIs(t, mustEncode(t, l), l, api.OK)
	}
}

// checkAny holds what Decode answers of any bytes against the slow Decode; what is told has just these bytes.
func checkAny(t *testing.T, b string) api.Errno {
	t.Helper()
	want, wantE := slowDecode(b)
	checkDecodeIs(t, b, want, wantE)
	if wantE == api.OK {
		l, _ := chain.Decode(b)
		checkEncodeIs(t, l, b, api.OK)
		if !chain.Right(l) {
			t.Errorf("Decode(%x): %v is no chain", brief(b), briefly(l))
		}
	}
	return wantE
}

// P9.3, P3: of all bytes of some lengths, of a few kinds, an error is told, or the chain that has just these.
func TestAllShort(t *testing.T) {
	for first := range 256 {
		checkAny(t, string([]byte{byte(first)}))
		for next := range 256 {
			checkAny(t, string([]byte{byte(first), byte(next)}))
			checkAny(t, string([]byte{1, byte(first), byte(next)}))
			checkAny(t, string([]byte{1, 1, 0, byte(first), 0, byte(next)}))
		}
	}
	rows := []string{""}
	for i := 0; len(rows[i]) < 9; i++ {
		for _, b := range []string{"\x00", "\x01", "\x02", "\x80"} {
			rows = append(rows, rows[i]+b)
		}
	}
	for _, b := range rows {
		checkAny(t, b)
	}
}

// P9.3, P3: so of two versions with a base of a few bytes, all bytes behind it being of a few kinds.
func TestAllShortBehindABase(t *testing.T) {
	const head = "\x02" + "\x01\x00\x00\x00\x03\x01\x00\x01" + "\x01\x00"
	rows := []string{""}
	told := 0
	for i := 0; len(rows[i]) < 7; i++ {
		for _, b := range []string{"\x00", "\x01", "\x02", "\x03"} {
			rows = append(rows, rows[i]+b)
		}
	}
	for _, b := range rows {
		if checkAny(t, head+b) == api.OK {
			told++
		}
	}
	if told < 50 {
		t.Errorf("only %d were chains", told)
	}
}

// changed is some bytes with one thing at random done to them.
func changed(r *rand.Rand, b string) string {
	l := []byte(b)
	if len(l) == 0 {
		return string([]byte{byte(r.Uint32())})
	}
	i := r.IntN(len(l))
	switch r.IntN(6) {
	case 0:
		l[i] ^= 1 << r.IntN(8)
	case 1:
		l[i] = byte(r.IntN(4))
	case 2:
		l[i]++
	case 3:
		l[i]--
	case 4:
		l = slices.Insert(l, i, byte(r.IntN(4)))
	case 5:
		l = slices.Delete(l, i, i+1)
	}
	return string(l)
}

// P9.3, P3: chains' bytes with something changed are told as the slow Decode tells them.
func TestChanged(t *testing.T) {
	r := rand.New(rand.NewPCG(9, 7))
	counts := map[api.Errno]int{}
	for range 60000 {
		b := mustEncode(t, randomChain(r, 6))
		for range 1 + r.IntN(3) {
			b = changed(r, b)
		}
		counts[checkAny(t, b)]++
	}
	if counts[api.OK] < 1000 || counts[api.ErrForm] < 1000 {
		t.Errorf("%v: too few of a kind", counts)
	}
}

// looseBytes are bytes such as a chain's, whose numbers are whatever may be.
func looseBytes(r *rand.Rand) string {
	count := r.IntN(5)
	b := numberBytes(uint64(count + r.IntN(20)/19))
	for range count {
		b += numberBytes(1+r.Uint64N(300)-r.Uint64N(20)/19) + string([]byte{byte(r.IntN(3))})
		if b[len(b)-1] == 0 {
			between := "abaabab"[r.IntN(7):]
			between = between[:min(len(between), r.IntN(4))]
			b += numberBytes(r.Uint64N(3)) + numberBytes(r.Uint64N(3)) + numberBytes(uint64(len(between))) + between
		}
	}
	return b
}

// P9.3, P3: so are bytes that are put together at random.
func TestLoose(t *testing.T) {
	r := rand.New(rand.NewPCG(9, 8))
	told := 0
	for range 100000 {
		if checkAny(t, looseBytes(r)) == api.OK {
			told++
		}
	}
	if told < 1000 {
		t.Errorf("only %d were chains", told)
	}
}

// P9.3, P3: and bytes of no order at all.
func TestNoise(t *testing.T) {
	r := rand.New(rand.NewPCG(9, 9))
	for range 20000 {
		b := make([]byte, r.IntN(60))
		for i := range b {
			b[i] = byte(r.Uint32()) >> r.IntN(8)
		}
		checkAny(t, string(b))
	}
}

// P9.3, P3: chains whose values are near MaxBytes bytes together, some of them changed.
func TestChangedLong(t *testing.T) {
	r := rand.New(rand.NewPCG(9, 10))
	counts := map[api.Errno]int{}
	for range 300 {
		var l []api.Version
		all := 0
		for time := uint64(1); len(l) < 12 && all < 59000+r.IntN(2000); time += 1 + r.Uint64N(200) {
			value := strings.Repeat("ab"[r.IntN(2):][:1], 3000+r.IntN(6000)) + randomValue(r, "")
			l = append(l, at(time, value))
			all += len(value)
		}
		b := mustEncode(t, l)
		counts[checkAny(t, b)]++
		counts[checkAny(t, changed(r, b))]++
		counts[checkAny(t, b[:len(b)-r.IntN(20)])]++
		counts[checkAny(t, b+"\x00")]++
	}
	if counts[api.OK] < 20 || counts[api.ErrForm] < 20 || counts[api.ErrLong] < 20 {
		t.Errorf("%v: too few of a kind", counts)
	}
}
