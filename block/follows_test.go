package block_test

import (
	"math/rand/v2"
	"slices"
	"strings"
	"testing"

	"isogloss/api"
	"isogloss/block"
	"isogloss/crc"
	"isogloss/lz"
)

// P10.3, P3: entries come again of their bytes.
func TestComesAgain(t *testing.T) {
	for _, l := range someBlocks() {
		checkDecodeIs(t, mustEncode(t, l), l, api.OK)
	}
	r := rand.New(rand.NewPCG(10, 5))
	for range 10000 {
		l := randomBlock(r, 12)
		checkDecodeIs(t, mustEncode(t, l), l, api.OK)
	}
	for range 30 {
		l := randomBlock(r, 1500)
		checkDecodeIs(t, mustEncode(t, l), l, api.OK)
	}
}

// P10.3: keys that share very much make a block that says far more than it has bytes.
func TestComesAgainOfFewBytes(t *testing.T) {
	var l []block.Entry
	key := strings.Repeat("k", 20000)
	for i := range 2000 {
		l = append(l, with(key+string([]byte{byte(i >> 8), byte(i)}), gone(1)))
	}
	checkDecodeIs(t, mustEncode(t, l), l, api.OK)
}

// checkAny holds what Decode answers of any bytes against the slow Decode; what is told has just that inside.
func checkAny(t *testing.T, b string) api.Errno {
	t.Helper()
	want, wantE := slowDecode(b)
	checkDecodeIs(t, b, want, wantE)
	if wantE == api.OK {
		inside, _ := lz.Unpack(b[:len(b)-4])
		checkBlock(t, want, inside)
	}
	return wantE
}

// P10.3, P3: of all insides of some lengths, of a few kinds of bytes, an error is told, or the entries that have just these.
func TestAllShort(t *testing.T) {
	for first := range 256 {
		one := string([]byte{byte(first)})
		checkAny(t, stored(one))
		checkAny(t, stored("\x01"+one+"\x01k"+goneAt1))
		checkAny(t, stored("\x01"+"\x00"+one+"k"+goneAt1))
		checkAny(t, stored("\x01"+"\x00\x01"+one+goneAt1))
		checkAny(t, stored("\x01"+"\x00\x01k"+one+goneAt1[1:]))
		for next := range 256 {
			checkAny(t, stored(one+string([]byte{byte(next)})))
			checkAny(t, stored("\x02"+"\x00\x01"+one+goneAt1+"\x00\x01"+string([]byte{byte(next)})+goneAt1))
		}
	}
	checkAllOf(t, "", "", "\x00\x01\x02\x03", 8)
}

// checkAllOf holds all insides of a head, of up to n of these bytes, and of a tail; and tells how many are entries'.
func checkAllOf(t *testing.T, head, tail, bytes string, n int) int {
	t.Helper()
	rows := []string{""}
	for i := 0; len(rows[i]) < n; i++ {
		for j := range len(bytes) {
			rows = append(rows, rows[i]+bytes[j:j+1])
		}
	}
	told := 0
	for _, row := range rows {
		if want, e := slowEntries(head + row + tail); e == api.OK {
			told++
			checkDecodeIs(t, stored(head+row+tail), want, e)
			checkInsideIs(t, want, head+row+tail, api.OK)
		} else {
			checkDecodeIs(t, stored(head+row+tail), nil, e)
		}
	}
	return told
}

// P10.3, P3: so of entries behind one with a key of a few bytes.
func TestAllShortBehindAKey(t *testing.T) {
	const key = "\x01\x02\x01"
	told := checkAllOf(t, "\x02"+"\x00\x03"+key+goneAt1, goneAt1, "\x00\x01\x02\x03\x04", 5)
	told += checkAllOf(t, "\x03"+"\x00\x03"+key+goneAt1+"\x03\x01\x02"+goneAt1, goneAt1, "\x01\x02\x03\x04\x05", 5)
	if told < 100 {
		t.Errorf("only %d were entries", told)
	}
}

// changed is some bytes with one thing at random done to them.
func changed(r *rand.Rand, b string) string {
	l := []byte(b)
	if len(l) == 0 {
		return string([]byte{byte(r.Uint32())})
	}
	i := r.IntN(len(l))
	switch r.IntN(6) {
	case 0:
		l[i] ^= 1 << r.IntN(8)
	case 1:
		l[i] = byte(r.IntN(4))
	case 2:
		l[i]++
	case 3:
		l[i]--
	case 4:
		l = slices.Insert(l, i, byte(r.IntN(4)))
	case 5:
		l = slices.Delete(l, i, i+1)
	}
	return string(l)
}

// P10.3, P3: insides with something changed, summed aright, are told as the slow Decode tells them.
func TestChangedInside(t *testing.T) {
	r := rand.New(rand.NewPCG(10, 6))
	counts := map[api.Errno]int{}
	for range 40000 {
		inside := mustInside(t, randomBlock(r, 5))
		for range 1 + r.IntN(2) {
			inside = changed(r, inside)
		}
		counts[checkAny(t, stored(inside))]++
	}
	if counts[api.OK] < 2000 || counts[api.ErrForm] < 2000 {
		t.Errorf("%v: too few of a kind", counts)
	}
}

// P10.3, P3: so are packed bytes with something changed, summed aright; and those with another sum are no block's.
func TestChangedPacked(t *testing.T) {
	r := rand.New(rand.NewPCG(10, 7))
	counts := map[api.Errno]int{}
	for range 10000 {
		b := mustEncode(t, randomBlock(r, 20))
		counts[checkAny(t, summed(changed(r, b[:len(b)-4])))]++
		if other := changed(r, b); other != b {
			checkForm(t, other)
		}
	}
	if counts[api.OK] < 50 || counts[api.ErrForm] < 2000 {
		t.Errorf("%v: too few of a kind", counts)
	}
}

// looseInside is an inside whose numbers are whatever may be.
func looseInside(r *rand.Rand) string {
	count := r.IntN(5)
	s := numberBytes(count + r.IntN(20)/19)
	for range count {
		others := "abcb"[r.IntN(4):]
		versions := "\x01\x01\x01"
		if r.IntN(8) == 0 {
			versions = wrongVersions()[r.IntN(3)]
		}
		s += numberBytes(r.IntN(4)*r.IntN(2)) + textBytes(others[:r.IntN(len(others)+1)]) + textBytes(versions)
	}
	return s
}

// P10.3, P3: so are insides that are put together at random.
func TestLooseInside(t *testing.T) {
	r := rand.New(rand.NewPCG(10, 8))
	told := 0
	for range 60000 {
		if checkAny(t, stored(looseInside(r))) == api.OK {
			told++
		}
	}
	if told < 1000 {
		t.Errorf("only %d were entries", told)
	}
}

// P10.3, P3: so are chains that are too long among others, with something changed.
func TestChangedLong(t *testing.T) {
	r := rand.New(rand.NewPCG(10, 9))
	counts := map[api.Errno]int{}
	for range 900 {
		var keys, chains []string
		for range 1 + r.IntN(4) {
			keys = append(keys, string([]byte{byte(2 * len(keys)), byte(r.IntN(3))}))
			chains = append(chains, []string{"\x01\x01\x01", sharedVersions(59998 + r.IntN(4)), tooLong()[2:]}[r.IntN(3)])
		}
		inside := slowJoined(keys, chains)
		if len(inside) > api.MaxBytes {
			continue
		}
		counts[checkAny(t, packed(t, inside))]++
		head := len(inside) - len(chains[len(chains)-1])
		counts[checkAny(t, stored(changed(r, inside[:head])+inside[head:]))]++
		counts[checkAny(t, stored(changed(r, inside)))]++
		counts[checkAny(t, stored(inside+looseInside(r)))]++
	}
	if counts[api.OK] < 100 || counts[api.ErrForm] < 100 || counts[api.ErrLong] < 100 {
		t.Errorf("%v: too few of a kind", counts)
	}
}

// P10.3, P3: and bytes of no order at all, with their sum and without.
func TestNoise(t *testing.T) {
	r := rand.New(rand.NewPCG(10, 10))
	for range 20000 {
		l := make([]byte, r.IntN(60))
		for i := range l {
			l[i] = byte(r.Uint32()) >> r.IntN(8)
		}
		checkAny(t, string(l))
		checkAny(t, summed(string(l)))
		checkAny(t, stored(string(l)))
	}
}

// R1: with any table each call ends, and none panics.
func TestAnyTable(t *testing.T) {
	r := rand.New(rand.NewPCG(10, 11))
	var tables []crc.Table
	for i := range 20 {
		var table crc.Table
		for j := range table {
			table[j] = r.Uint32() * uint32(i)
		}
		tables = append(tables, table)
	}
	for _, l := range someBlocks() {
		for _, table := range tables {
			b, _ := block.Encode(table, l)
			block.Decode(table, b)
			block.Decode(table, b+"\x00")
			block.Decode(table, "")
		}
	}
}
