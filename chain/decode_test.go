package chain_test

import (
	"strings"
	"testing"
	"unsafe"

	"isogloss/api"
	"isogloss/chain"
)

// P9.1: no bytes, each beginning of a chain's bytes, and what has more behind them, are no chain's bytes.
func TestDecodeCut(t *testing.T) {
	checkForm(t, "")
	for _, l := range someChains() {
		b := mustEncode(t, l)
		checkDecodeIs(t, b, l, api.OK)
		for cut := range len(b) {
			checkForm(t, b[:cut])
		}
		for _, behind := range []string{"\x00", "\x01", "\x01\x01", "\xff", b} {
			checkForm(t, b+behind)
		}
	}
}

// P9.1: a count that doesn't fit what follows is no chain's.
func TestDecodeCount(t *testing.T) {
	for n := range 203 {
		var l []api.Version
		for i := range n {
			l = append(l, gone(uint64(i+1)))
		}
		versions := strings.Repeat("\x01\x01", n)
		for count := range uint64(206) {
			if count == uint64(n) && n <= api.MaxVersions {
				checkDecodeIs(t, numberBytes(count)+versions, l, api.OK)
			} else {
				checkForm(t, numberBytes(count)+versions)
			}
		}
	}
}

// P9.1: nor is one of more than MaxVersions, whatever follows.
func TestDecodeCountOfMany(t *testing.T) {
	for _, count := range []uint64{201, 202, 255, 256, 257, 1 << 31, 1 << 32, 1<<32 + 1, 1 << 63, 1<<63 + 1, greatest} {
		for _, behind := range []string{"", "\x01\x01", "\x01\x00\x00\x00\x01a", strings.Repeat("\x01\x01", 200), strings.Repeat("\x01\x01", int(min(count, 300)))} {
			checkForm(t, numberBytes(count)+behind)
		}
	}
}

// P9.1: a step of 0, at first and later, and steps beyond the greatest time.
func TestDecodeSteps(t *testing.T) {
	checkForm(t, "\x01"+"\x00\x01")
	checkForm(t, "\x01"+"\x00\x00\x00\x00\x01a")
	checkForm(t, "\x02"+"\x00\x01"+"\x01\x01")
	checkForm(t, "\x02"+"\x01\x01"+"\x00\x01")
	checkForm(t, "\x02"+"\x01\x00\x00\x00\x01a"+"\x00\x00\x01\x00\x00")
	for _, first := range []uint64{1, 2, 300, 1 << 32, 1<<63 - 1, 1 << 63, 1<<63 + 1, greatest - 1, greatest} {
		head := "\x02" + numberBytes(first) + "\x01"
		for step := range uint64(3) {
			most := greatest - first
			if most-step > 0 && step <= most {
				checkDecodeIs(t, head+numberBytes(most-step)+"\x01", []api.Version{gone(first), gone(greatest - step)}, api.OK)
			}
			checkForm(t, head+numberBytes(most+1+min(step, first-1))+"\x01")
			checkForm(t, head+numberBytes(greatest-min(step, first-1))+"\x01")
		}
	}
	checkForm(t, "\x03"+"\x01\x01"+numberBytes(greatest-1)+"\x01"+"\x01\x01")
	checkForm(t, "\x03"+numberBytes(1<<63)+"\x01"+numberBytes(1<<62)+"\x01"+numberBytes(1<<62)+"\x01")
}

// P9.1: a byte that tells neither that a version is gone, nor that it isn't.
func TestDecodeGoneByte(t *testing.T) {
	for b := 2; b < 256; b++ {
		wrong := string([]byte{byte(b)})
		checkForm(t, "\x01"+"\x05"+wrong)
		checkForm(t, "\x01"+"\x05"+wrong+"\x00\x00\x00")
		checkForm(t, "\x01"+"\x05"+wrong+"\x00\x00\x02ab")
		checkForm(t, "\x02"+"\x05\x01"+"\x01"+wrong)
		checkForm(t, "\x02"+"\x05"+wrong+"\x01\x01")
	}
	checkForm(t, "\x01"+"\x05\x01"+"\x00\x00\x02ab")
	checkForm(t, "\x01"+"\x05\x00")
}

// second are the bytes of two versions: a base, and what a value is told by, whether it may be or not.
func second(base string, begins, ends uint64, between string) string {
	first := "\x01\x00\x00\x00" + numberBytes(uint64(len(base))) + base
	return "\x02" + first + "\x01\x00" + numberBytes(begins) + numberBytes(ends) + numberBytes(uint64(len(between))) + between
}

// P9.1: a beginning, or an end, longer than the base, and both together longer than it.
func TestDecodeMoreThanBase(t *testing.T) {
	most := []uint64{1 << 31, 1 << 32, 1<<32 + 1, 1 << 63, 1<<63 + 1, greatest - 1, greatest}
	for _, base := range []string{"", "a", "abc", strings.Repeat("x", 200)} {
		all := uint64(len(base))
		for _, between := range []string{"", "a", "Q", "QQQQ"} {
			for _, n := range append(most, all+1, all+2, all+100) {
				checkForm(t, second(base, n, 0, between))
				checkForm(t, second(base, 0, n, between))
				checkForm(t, second(base, n, n, between))
				checkForm(t, second(base, all, n, between))
				checkForm(t, second(base, n, all, between))
			}
			for begins := range all + 1 {
				checkForm(t, second(base, begins, all-begins+1, between))
				if begins > 0 { // both together go around to nothing
					checkForm(t, second(base, begins, 0-begins, between))
					checkForm(t, second(base, 0-begins, begins, between))
				}
			}
		}
	}
	checkForm(t, "\x01"+"\x01\x00\x01\x00\x01a")
	checkForm(t, "\x01"+"\x01\x00\x00\x01\x01a")
	checkForm(t, "\x02"+"\x01\x01"+"\x01\x00\x01\x00\x00")
}

// P9.1: the base of a beginning, or an end, is the last value, not one ahead of it, also where there are none of its bytes.
func TestDecodeOtherBase(t *testing.T) {
	checkForm(t, "\x03"+"\x01\x00\x00\x00\x02ab"+"\x01\x00\x00\x00\x00"+"\x01\x00\x01\x00\x00")
	checkForm(t, "\x03"+"\x01\x00\x00\x00\x02ab"+"\x01\x00\x01\x00\x00"+"\x01\x00\x02\x00\x00")
	checkDecodeIs(t, "\x03"+"\x01\x00\x00\x00\x02ab"+"\x01\x01"+"\x01\x00\x02\x00\x00", []api.Version{at(1, "ab"), gone(2), at(3, "ab")}, api.OK)
}

// P9.1: a beginning that could be longer: what is between goes on as the base does, or what the end tells is the beginning's.
func TestDecodeBeginsTooShort(t *testing.T) {
	for begins := range uint64(3) {
		checkForm(t, second("abc", begins, 0, "abc"[begins:]))
		checkForm(t, second("abc", begins, 3-begins, ""))
		checkForm(t, second("abc", begins, 0, "abcd"[begins:]))
		checkForm(t, second("abc", begins, 0, "abc"[begins:begins+1]))
	}
	checkForm(t, second("abc", 0, 1, "ab"))
	checkForm(t, second("abc", 1, 1, "b"))
	checkForm(t, second("aaaa", 0, 3, ""))
	checkForm(t, second("aaaa", 1, 2, ""))
	checkForm(t, second("aaaa", 2, 0, "a"))
	checkForm(t, second("ab", 0, 2, "ab"))
	checkForm(t, second("aba", 1, 2, "ba"))
	checkForm(t, second("aba", 0, 1, ""))
	checkForm(t, second("abXab", 0, 2, ""))
}

// P9.1: an end that could be longer.
func TestDecodeEndsTooShort(t *testing.T) {
	for ends := range uint64(3) {
		checkForm(t, second("abc", 0, ends, "Xabc"[:4-ends]))
	}
	for ends := range uint64(2) {
		checkForm(t, second("abc", 0, ends, "Xbc"[:3-ends]))
		checkForm(t, second("abc", 0, ends, "bc"[:2-ends]))
		checkForm(t, second("abcc", 1, ends, "Xcc"[:3-ends]))
	}
	checkForm(t, second("abc", 0, 0, "c"))
	checkForm(t, second("abc", 0, 1, "b"))
	checkForm(t, second("abc", 1, 0, "c"))
	checkForm(t, second("abc", 1, 0, "Xc"))
	checkForm(t, second("abcd", 1, 1, "Xc"))
	checkDecodeIs(t, second("aba", 3, 0, "ba"), chainOf("aba", "ababa"), api.OK)
	checkDecodeIs(t, second("abc", 0, 2, "X"), chainOf("abc", "Xbc"), api.OK)
}

// P9.1: of all beginnings, ends and texts between just one tells a value, for every two values of up to four bytes.
func TestDecodeJustOneTold(t *testing.T) {
	values := []string{""}
	for i := 0; len(values) < 31; i++ {
		values = append(values, values[i]+"a", values[i]+"b")
	}
	for _, base := range values {
		all := uint64(len(base))
		told := map[string]int{}
		for begins := range all + 1 {
			for ends := range all - begins + 1 {
				for _, between := range values {
					if l, e := chain.Decode(second(base, begins, ends, between)); e == api.OK {
						told[l[1].Value]++
					} else if e != api.ErrForm {
						t.Errorf("%q, %d, %d, %q: error %d", base, begins, ends, between, e)
					}
				}
			}
		}
		for _, value := range values {
			if told[value] != 1 {
				t.Errorf("behind %q %q is told %d times", base, value, told[value])
			}
		}
	}
}

// P9.1: numbers and texts that aren't as layer 1 makes them.
func TestDecodeNumbers(t *testing.T) {
	const tenth = "\xff\xff\xff\xff\xff\xff\xff\xff\xff"
	parts := []string{"\x02", "\x01", "\x00", "\x00", "\x00", "\x03", "abc", "\x01", "\x00", "\x01", "\x01", "\x01", "X"}
	checkDecodeIs(t, strings.Join(parts, ""), chainOf("abc", "aXc"), api.OK)
	for _, i := range []int{0, 1, 3, 4, 5, 7, 9, 10, 11} {
		right := parts[i]
		for _, wrong := range []string{
			string([]byte{right[0] | 0x80, 0}), string([]byte{right[0] | 0x80, 0x80, 0}), right + "\x00", "",
			tenth + "\x02", tenth + "\x7f", tenth + "\xff", tenth + "\x81\x00", strings.Repeat("\x80", 9) + "\x02", strings.Repeat("\x80", 40), tenth + "\x01",
		} {
			parts[i] = wrong
			checkForm(t, strings.Join(parts, ""))
		}
		parts[i] = right
	}
	checkForm(t, "\x80\x00")
	checkForm(t, "\x80")
	checkForm(t, "\x01"+"\x01\x00\x00\x00\x80\x00")
	for _, length := range []uint64{4, 1 << 31, 1 << 32, 1<<32 + 3, 1 << 63, 1<<63 + 3, greatest} {
		checkForm(t, "\x01"+"\x01\x00\x00\x00"+numberBytes(length)+"abc")
	}
}

// P9.1, R5: what is answered is new memory: of the bytes that were handed in, and of the value ahead, nothing is shared.
func TestDecodeIsNew(t *testing.T) {
	b := mustEncode(t, chainOf("abcdefgh", "abcdefgh", "abcd", "efghijkl"))
	l, _ := chain.Decode(b)
	for i, v := range l {
		from := uintptr(unsafe.Pointer(unsafe.StringData(v.Value)))
		into := uintptr(unsafe.Pointer(unsafe.StringData(b)))
		if into <= from && from < into+uintptr(len(b)) {
			t.Errorf("value %d stands in the bytes", i)
		}
	}
	room := []byte(b)
	lent := unsafe.String(&room[0], len(room))
	l, _ = chain.Decode(lent)
	for i := range room {
		room[i] = '?'
	}
	for i, want := range chainOf("abcdefgh", "abcdefgh", "abcd", "efghijkl") {
		if l[i] != want {
			t.Errorf("%v became %v", want, l[i])
		}
	}
}

// P9.1, R5: two answers share no memory.
func TestDecodeTwice(t *testing.T) {
	b := mustEncode(t, chainOf("ab", "abc"))
	one, _ := chain.Decode(b)
	for i := range one[:cap(one)] {
		one[:cap(one)][i] = gone(99)
	}
	checkDecodeIs(t, b, chainOf("ab", "abc"), api.OK)
}
