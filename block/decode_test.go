package block_test

import (
	"strings"
	"testing"

	"isogloss/api"
	"isogloss/block"
	"isogloss/crc"
)

// P10.1: no bytes, and up to three, are no block's; four neither, though they be the sum of none.
func TestDecodeFew(t *testing.T) {
	for _, b := range []string{"", "\x00", "\x00\x00", "\x00\x00\x00", "\x01\x00\x00", "\xff\xff\xff", "\x00\x00\x00\x00", "\xff\xff\xff\xff", "\x01\x00\x00\x00", "\x00\x00\x00\x01", summed("")} {
		checkForm(t, b)
	}
	if summed("") != "\x00\x00\x00\x00" {
		t.Errorf("the sum of no bytes is %x", summed(""))
	}
}

// P10.1: each beginning of a block's bytes, and what has a byte more behind them, or ahead.
func TestDecodeCut(t *testing.T) {
	for _, l := range someBlocks() {
		b := mustEncode(t, l)
		checkDecodeIs(t, b, l, api.OK)
		for cut := range b[:min(len(b), 300)] {
			checkForm(t, b[:cut])
			checkForm(t, b[cut+1:])
		}
		for more := range 256 {
			behind := string([]byte{byte(more)})
			checkForm(t, b+behind)
			checkForm(t, behind+b)
		}
		checkForm(t, b+b)
		checkForm(t, b[:len(b)-4])
	}
}

// P10.1: another sum, or other bytes ahead of it: each byte may be any other one.
func TestDecodeOtherByte(t *testing.T) {
	for _, l := range [][]block.Entry{nil, keyed("a"), keyed("abc", "abd"), {with("k", at(5, "ab"), gone(7), at(9, "abc"))}} {
		for _, b := range []string{mustEncode(t, l), stored(mustInside(t, l)), inParts(mustInside(t, l))} {
			checkDecodeIs(t, b, l, api.OK)
			other := []byte(b)
			for i := range other {
				for range 255 {
					other[i]++
					checkForm(t, string(other))
				}
				other[i]++
			}
		}
	}
}

// P10.1: the sum's greatest byte is the first one, and it is of all bytes ahead, and of no others.
func TestDecodeOtherSum(t *testing.T) {
	for _, l := range someBlocks() {
		b := mustEncode(t, l)
		ahead, sum := b[:len(b)-4], b[len(b)-4:]
		checkForm(t, ahead+string([]byte{sum[3], sum[2], sum[1], sum[0]}))
		checkForm(t, ahead+"\x00\x00\x00\x00")
		checkForm(t, ahead+"\xff\xff\xff\xff")
		checkForm(t, sum+ahead)
		checkForm(t, ahead+sumBytes(mustInside(t, l)))
		checkForm(t, ahead+sumBytes(ahead[1:]))
		checkForm(t, ahead+sumBytes(ahead[:len(ahead)-1]))
	}
}

// P10.1: the sum is reckoned with the table that is handed on.
func TestDecodeTable(t *testing.T) {
	other := crc.Make()
	for i := range other {
		other[i] ^= 0x1234567
	}
	for _, l := range someBlocks() {
		b, e := block.Encode(other, l)
		if e != api.OK {
			t.Fatalf("error %d", e)
		}
		if _, e := block.Decode(other, b); e != api.OK {
			t.Errorf("%v: error %d", briefly(l), e)
		}
		checkForm(t, b)
		if got, e := block.Decode(other, mustEncode(t, l)); len(got) != 0 || e != api.ErrForm {
			t.Errorf("%v: error %d", briefly(got), e)
		}
	}
}

// badlyPacked are bytes that layer 4 unpacks as none, and what they would say stands in them.
func badlyPacked(inside string) []string {
	n := len(inside)
	return []string{
		"", "\x00", "\x01", "\x80\x00\x00", numberBytes(n), numberBytes(n) + "\x02" + inside, numberBytes(n+1) + "\x00" + inside, numberBytes(n) + "\x00" + inside + "\x00",
		numberBytes(n) + "\x01" + textBytes(inside) + "\x00", numberBytes(n+4) + "\x01" + textBytes(inside) + "\x00\x04", numberBytes(n+3) + "\x01" + textBytes(inside) + "\x01\x03",
		"\x01\x00", "\x00\x00a", "\x00\x01",
	}
}

// longPacked are bytes that say more than MaxBytes.
func longPacked() []string {
	most := numberBytes(api.MaxBytes + 1)
	return []string{most, most + "\x00", most + "\x02", most + "\x00" + strings.Repeat("a", api.MaxBytes+1), "\xff\xff\xff\xff\xff\xff\xff\xff\xff\x01", "\xe1\xd4\x03\x01\x01a\x01" + numberBytes(api.MaxBytes)}
}

// P10.1: what Unpack says is told.
func TestDecodeUnpacksError(t *testing.T) {
	for _, inside := range []string{"\x00", "\x01" + "\x00\x01k" + goneAt1, "\x05"} {
		for _, s := range badlyPacked(inside) {
			checkForm(t, summed(s))
		}
	}
	for _, s := range longPacked() {
		checkDecodeIs(t, summed(s), nil, api.ErrLong)
	}
}

// P10.1, R2: another sum, and too few bytes, go ahead of what Unpack says.
func TestDecodeSumAheadOfUnpack(t *testing.T) {
	for _, s := range longPacked() {
		b := summed(s)
		checkForm(t, s)
		for i := len(b) - 4; i < len(b); i++ {
			other := []byte(b)
			other[i] ^= 0x10
			checkForm(t, string(other))
			checkForm(t, b[:i])
		}
		checkForm(t, b+"\x00")
		checkForm(t, s+"\x00\x00\x00\x00")
	}
	checkForm(t, "\xe1\xd4\x03")
}

// P10.1, R2: what Unpack says goes ahead of what is inside.
func TestDecodeUnpackAheadOfInside(t *testing.T) {
	long := "\x01" + "\x00\x01k" + textBytes("\x02"+"\x01\x00\x00\x00"+textBytes(strings.Repeat("v", 40000))+"\x01\x00"+numberBytes(40000)+"\x00\x00")
	checkLong(t, long)
	for _, s := range badlyPacked(long) {
		checkForm(t, summed(s))
	}
	wrong := "\x01" + strings.Repeat("w", api.MaxBytes)
	checkDecodeIs(t, stored(wrong), nil, api.ErrLong)
	checkDecodeIs(t, inParts(wrong), nil, api.ErrLong)
	checkNone(t, wrong[:api.MaxBytes])
}

// P10.1: no bytes at all are no inside, nor is each beginning of one, nor what has more behind it.
func TestDecodeInsideCut(t *testing.T) {
	checkNone(t, "")
	for _, l := range someBlocks() {
		inside := mustInside(t, l)
		for cut := range inside[:min(len(inside), 200)] {
			checkNone(t, inside[:cut])
		}
		if len(inside) < 1000 {
			for _, behind := range []string{"\x00", "\x01", "\x00\x00", "\xff", "\x00\x01z" + goneAt1, inside} {
				checkNone(t, inside+behind)
			}
		}
	}
}

// P10.1: a count that doesn't fit what follows.
func TestDecodeCount(t *testing.T) {
	for n := range 130 {
		var l []block.Entry
		entries := ""
		for i := range n {
			key := string([]byte{byte(i), 'x'})
			l = append(l, with(key, gone(1)))
			entries += "\x00" + textBytes(key) + goneAt1
		}
		for _, count := range []int{0, 1, n - 1, n, n + 1, n + 127, n + 128, n + 256, n + 1<<16, n + 1<<32} {
			if count == n {
				checkDecodeIs(t, stored(numberBytes(count)+entries), l, api.OK)
			} else if count >= 0 {
				checkForm(t, stored(numberBytes(count)+entries))
			}
		}
	}
	for _, count := range []int{1, 2, 1 << 31, 1 << 32, 1<<63 - 1} {
		checkNone(t, numberBytes(count))
		checkNone(t, numberBytes(count)+"\x00")
	}
	checkNone(t, "\xff\xff\xff\xff\xff\xff\xff\xff\xff\x01")
	checkNone(t, "\xff\xff\xff\xff\xff\xff\xff\xff\xff\x01"+"\x00\x01k"+goneAt1)
}

// second is an inside of two entries, of which the second one's key is told so, whether it may be or not.
func second(last string, begins uint64, others string) string {
	return "\x02" + "\x00" + textBytes(last) + goneAt1 + numberBytes(begins) + textBytes(others) + goneAt1
}

// P10.1: a key's beginning that is longer than the key ahead.
func TestDecodeBeginsTooLong(t *testing.T) {
	for _, last := range []string{"", "a", "abc", strings.Repeat("k", 200)} {
		all := uint64(len(last))
		for _, others := range []string{"", "a", "z", "zz"} {
			for _, n := range []uint64{all + 1, all + 2, all + 100, all + 128, 1 << 31, 1 << 32, 1<<32 + all, 1 << 63, 1<<63 + all, greatest - 1, greatest} {
				checkNone(t, second(last, n, others))
			}
		}
		checkDecodeIs(t, stored(second(last, all, "z")), keyed(last, last+"z"), api.OK)
	}
	checkNone(t, "\x03"+"\x00\x03abc"+goneAt1+"\x00\x01b"+goneAt1+"\x02\x01c"+goneAt1)
}

// P10.1: one that could be longer.
func TestDecodeBeginsTooShort(t *testing.T) {
	for n := range uint64(3) {
		checkNone(t, second("abc", n, "abcd"[n:]))
	}
	checkDecodeIs(t, stored(second("abc", 3, "d")), keyed("abc", "abcd"), api.OK)
	for n := range uint64(2) {
		checkNone(t, second("abc", n, "abd"[n:]))
		checkNone(t, second("abc", n, "abd\xff"[n:]))
	}
	checkDecodeIs(t, stored(second("abc", 2, "d")), keyed("abc", "abd"), api.OK)
	checkNone(t, second("a\x80", 0, "a\x81"))
	checkNone(t, second("aaaa", 3, "aa"))
	checkNone(t, second(strings.Repeat("k", 128), 127, "kz"))
	checkNone(t, "\x03"+"\x00\x01a"+goneAt1+"\x00\x02bc"+goneAt1+"\x00\x02bd"+goneAt1)
}

// P10.1: one that isn't 0 of the first key.
func TestDecodeFirstBegins(t *testing.T) {
	for n := 1; n < 300; n++ {
		checkNone(t, "\x01"+numberBytes(n)+"\x01k"+goneAt1)
		checkNone(t, "\x01"+numberBytes(n)+"\x00"+goneAt1)
		checkNone(t, "\x02"+numberBytes(n)+"\x01k"+goneAt1+"\x00\x01l"+goneAt1)
	}
	checkDecodeIs(t, stored("\x01"+"\x00\x01k"+goneAt1), keyed("k"), api.OK)
	checkDecodeIs(t, stored("\x01"+"\x00\x00"+goneAt1), keyed(""), api.OK)
}

// P10.1: a key that doesn't rise: as long as can be told by what it shares, and not.
func TestDecodeDoesntRise(t *testing.T) {
	checkNone(t, second("a", 1, ""))
	checkNone(t, second("", 0, ""))
	checkNone(t, second("abc", 3, ""))
	checkNone(t, second("abc", 2, ""))
	checkNone(t, second("abc", 2, "b"))
	checkNone(t, second("abc", 0, ""))
	checkNone(t, second("abc", 0, "Z"))
	checkNone(t, second("b", 0, "aa"))
	checkNone(t, second("\x80", 0, "\x7f"))
	checkNone(t, second("a\xff", 1, "\xfe\xff"))
	checkNone(t, second("a\x00", 1, ""))
	head := "\x00\x01a" + goneAt1 + "\x00\x01b" + goneAt1
	checkNone(t, "\x03"+head+"\x00\x01a"+goneAt1)
	checkNone(t, "\x03"+head+"\x01\x00"+goneAt1)
	checkNone(t, "\x03"+head+"\x00\x00"+goneAt1)
	checkNone(t, "\x04"+head+"\x00\x01a"+goneAt1+"\x00\x01c"+goneAt1)
	checkDecodeIs(t, stored("\x03"+head+"\x01\x01\x00"+goneAt1), keyed("a", "b", "b\x00"), api.OK)
}

// wrongVersions are bytes that are no chain's, or those of one of no version.
func wrongVersions() []string {
	return []string{
		"", "\x00", "\x00\x00", "\x01", "\x01\x00\x01", "\x01\x01", "\x01\x01\x02", "\x01\x01\x01\x00", "\x02\x01\x01", "\x02\x01\x01\x00\x01", "\x01\x05\x00\x01\x00\x00", "\x01\x05\x00\x00\x00\x03ab",
		"\x02\x05\x00\x00\x00\x02ab\x01\x00\x01\x01\x00", "\x81\x00\x01\x01", "\xc9\x01" + strings.Repeat("\x01\x01", 201), "\xff", "\x01\x80\x00\x01",
	}
}

// P10.1: chains' bytes that layer 9 decodes as none, and a chain of no version, at each place.
func TestDecodeWrongVersions(t *testing.T) {
	right := textBytes("\x01\x05\x00\x00\x00\x02ab")
	for _, wrong := range wrongVersions() {
		checkNone(t, "\x01"+"\x00\x01k"+textBytes(wrong))
		checkNone(t, "\x01"+"\x00\x00"+textBytes(wrong))
		checkNone(t, "\x02"+"\x00\x01k"+textBytes(wrong)+"\x00\x01l"+right)
		checkNone(t, "\x02"+"\x00\x01k"+right+"\x00\x01l"+textBytes(wrong))
		checkNone(t, "\x03"+"\x00\x01k"+right+"\x01\x01l"+textBytes(wrong)+"\x00\x01l"+right)
	}
	checkDecodeIs(t, stored("\x02"+"\x00\x01k"+right+"\x01\x01l"+right), []block.Entry{with("k", at(5, "ab")), with("kl", at(5, "ab"))}, api.OK)
}

// P10.1: numbers and texts that aren't as layer 1 makes them.
func TestDecodeNumbers(t *testing.T) {
	const nine = "\xff\xff\xff\xff\xff\xff\xff\xff\xff"
	parts := []string{"\x02", "\x00", "\x03", "abc", "\x03", "\x01\x01\x01", "\x02", "\x01", "d", "\x03", "\x01\x01\x01"}
	checkDecodeIs(t, stored(strings.Join(parts, "")), keyed("abc", "abd"), api.OK)
	for _, i := range []int{0, 1, 2, 4, 6, 7, 9} {
		right := parts[i]
		for _, wrong := range []string{
			string([]byte{right[0] | 0x80, 0}), string([]byte{right[0] | 0x80, 0x80, 0}), right + "\x00", "", "\x80", nine, nine + "\x02", nine + "\x81\x00",
			strings.Repeat("\x80", 9) + "\x02", strings.Repeat("\x80", 40), nine + "\x01",
		} {
			parts[i] = wrong
			checkNone(t, strings.Join(parts, ""))
		}
		for n := range 128 {
			parts[i] = string([]byte{byte(n)})
			if parts[i] != right && i != 6 { // of what the second key shares any up to 3 tells a key
				checkNone(t, strings.Join(parts, ""))
			}
		}
		parts[i] = right
	}
	checkNone(t, "\x80\x00")
	checkNone(t, "\x80")
}

// P10.1: texts that say more than stands there, or less.
func TestDecodeTexts(t *testing.T) {
	for _, length := range []uint64{0, 2, 4, 127, 128, 1 << 31, 1 << 32, 1<<32 + 1, 1 << 63, 1<<63 + 1, greatest} {
		n := numberBytes(length)
		checkNone(t, "\x01"+"\x00"+n+"k"+goneAt1)
		checkNone(t, "\x01"+"\x00\x01k"+n+"\x01\x01\x01")
		checkNone(t, "\x02"+"\x00\x01k"+goneAt1+"\x00"+n+"l"+goneAt1)
		checkNone(t, "\x02"+"\x00\x01k"+n+"\x01\x01\x01"+"\x00\x01l"+goneAt1)
	}
}
