package block_test

import (
	"strings"
	"testing"

	"isogloss/api"
	"isogloss/block"
)

// sharedVersions are a chain's bytes whose values have n bytes together, most of them shared: n is above 20000.
func sharedVersions(n int) string {
	half := n / 2
	base := strings.Repeat("v", half)
	return "\x02" + "\x05\x00\x00\x00" + textBytes(base) + "\x02\x00" + numberBytes(half) + "\x00" + textBytes(strings.Repeat("w", n-2*half))
}

// sharedChain is the chain of those bytes.
func sharedChain(n int) []api.Version {
	base := strings.Repeat("v", n/2)
	return []api.Version{at(5, base), at(7, base+strings.Repeat("w", n%2))}
}

// tooLong are the bytes of a chain, as they stand in an inside, whose values are too long.
func tooLong() string {
	base := strings.Repeat("v", 600)
	return textBytes("\xc8\x01" + "\x01\x00\x00\x00" + textBytes(base) + strings.Repeat("\x01\x00"+numberBytes(600)+"\x00\x00", 199))
}

// P10.1: values of a chain of MaxBytes bytes together are told; of one more they are too long.
func TestLong(t *testing.T) {
	for _, n := range []int{api.MaxBytes - 1, api.MaxBytes} {
		checkBlock(t, []block.Entry{with("k", sharedChain(n)...)}, "\x01"+"\x00\x01k"+textBytes(sharedVersions(n)))
	}
	for _, n := range []int{api.MaxBytes + 1, api.MaxBytes + 2, api.MaxBytes + 20000} {
		inside := "\x01" + "\x00\x01k" + textBytes(sharedVersions(n))
		l := []block.Entry{with("k", sharedChain(n)...)}
		checkInsideIs(t, l, inside, api.OK)
		checkEncodeIs(t, l, packed(t, inside), api.OK)
		checkLong(t, inside)
	}
}

// P10.1: what is asked is how long one chain's values are: those of several ones may be longer together.
func TestLongTogether(t *testing.T) {
	var l []block.Entry
	want := "\x14"
	base := strings.Repeat("v", 600)
	for i := range 20 {
		key := string([]byte{byte('a' + i)})
		versions := []api.Version{at(1, base)}
		for len(versions) < 100 {
			versions = append(versions, at(uint64(len(versions)+1), base))
		}
		l = append(l, with(key, versions...))
		want += "\x00\x01" + key + textBytes("\x64"+"\x01\x00\x00\x00"+textBytes(base)+strings.Repeat("\x01\x00"+numberBytes(600)+"\x00\x00", 99))
	}
	checkBlock(t, l, want)
}

// P10.1: a chain that is too long at each place, and several ones.
func TestLongAtEachPlace(t *testing.T) {
	checkLong(t, "\x01"+"\x00\x00"+tooLong())
	checkLong(t, "\x01"+"\x00\x01k"+tooLong())
	checkLong(t, "\x02"+"\x00\x01k"+tooLong()+"\x00\x01l"+goneAt1)
	checkLong(t, "\x02"+"\x00\x01k"+goneAt1+"\x00\x01l"+tooLong())
	checkLong(t, "\x03"+"\x00\x01k"+goneAt1+"\x01\x01l"+tooLong()+"\x02\x01m"+goneAt1)
	checkLong(t, "\x03"+"\x00\x01k"+tooLong()+"\x01\x01l"+tooLong()+"\x02\x01m"+tooLong())
}

// P10.1, R2: what is told of the chain is layer 9's word: ahead of what follows in its own bytes.
func TestLongWithinItsBytes(t *testing.T) {
	long := tooLong()[2:]
	for _, versions := range []string{long[:1300], long + "\x00", long + "\xff\xff", long[:1300] + "\x00\x00\x00"} {
		checkLong(t, "\x01"+"\x00\x01k"+textBytes(versions))
		checkLong(t, "\x02"+"\x00\x01k"+textBytes(versions)+"\x00\x01l"+goneAt1)
	}
	for _, versions := range []string{long[:1000], "\xc9" + long[1:], "\xc8\x01" + "\x00" + long[3:], "\xc8\x01" + "\x01\x02" + long[4:]} {
		checkNone(t, "\x01"+"\x00\x01k"+textBytes(versions))
	}
}

// P10.1, R2: what isn't so in the entries ahead of it goes ahead of it: then it is no entries' inside.
func TestFormAheadOfLong(t *testing.T) {
	behind := "\x00\x01x" + tooLong()
	checkLong(t, "\x02"+"\x00\x01k"+goneAt1+behind)
	for _, wrong := range wrongAtSecondPlace() {
		checkNone(t, "\x03"+"\x00\x01k"+goneAt1+wrong+behind)
	}
	checkNone(t, "\x82\x00"+"\x00\x01k"+goneAt1+behind)
	checkNone(t, "\x02"+"\x01\x01k"+goneAt1+behind)
	checkNone(t, "\x02"+"\x00\x01k"+"\x01\x00"+behind)
}

// wrongAtSecondPlace are bytes that are no entry's behind one with the key k.
func wrongAtSecondPlace() []string {
	l := []string{
		"\x02\x01l" + goneAt1, "\x00\x02kl" + goneAt1, "\x00\x01k" + goneAt1, "\x01\x00" + goneAt1, "\x00\x01j" + goneAt1, "\x00\x00" + goneAt1, "\x80\x00\x01l" + goneAt1, "\x00\x81\x00l" + goneAt1,
		"\x00\x01l" + "\x83\x00\x01\x01\x01",
	}
	for _, versions := range wrongVersions() {
		l = append(l, "\x00\x01l"+textBytes(versions))
	}
	return l
}

// P10.1, R2: so does what isn't so in its own key, and in the entries behind it, and a count that doesn't fit.
func TestFormBehindLong(t *testing.T) {
	head := "\x00\x01k" + tooLong()
	checkLong(t, "\x02"+head+"\x00\x01l"+goneAt1)
	for _, wrong := range wrongAtSecondPlace() {
		checkNone(t, "\x02"+head+wrong)
		checkNone(t, "\x03"+head+wrong+"\x00\x01x"+goneAt1)
		checkNone(t, "\x03"+head+wrong+"\x00\x01x"+tooLong())
	}
	checkLong(t, "\x01"+head)
	for _, behind := range []string{"\x00", "\x01", "\xff", "\x00\x01l" + goneAt1} {
		checkNone(t, "\x01"+head+behind)
	}
	for _, count := range []int{0, 2, 3, 200, 1 << 32} {
		checkNone(t, numberBytes(count)+head)
	}
	checkNone(t, "\x01"+"\x01\x01k"+tooLong())
	checkNone(t, "\x02"+"\x00\x01k"+goneAt1+"\x00\x01j"+tooLong())
	checkNone(t, "\x02"+"\x00\x01k"+goneAt1+"\x00\x02kl"+tooLong())
	checkNone(t, "\x02"+"\x00\x01k"+goneAt1+"\x02\x01l"+tooLong())
}

// P10.1, R2: each cut of an inside in which a chain is too long is no inside.
func TestLongCut(t *testing.T) {
	inside := "\x03" + "\x00\x01k" + goneAt1 + "\x00\x01l" + tooLong() + "\x01\x01m" + goneAt1
	for cut := range len(inside) {
		checkForm(t, stored(inside[:cut]))
	}
	checkLong(t, inside)
}
