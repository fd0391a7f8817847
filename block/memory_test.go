package block_test

import (
	"slices"
	"strings"
	"testing"
	"unsafe"

	"isogloss/api"
	"isogloss/block"
	"isogloss/crc"
)

// stretch is where some memory begins, and where it ends.
type stretch struct {
	from, to uintptr
}

// ofText is where a text stands.
func ofText(s string) stretch {
	from := uintptr(unsafe.Pointer(unsafe.StringData(s)))
	return stretch{from, from + uintptr(len(s))}
}

// ofChain is where a chain stands, its spare room too.
func ofChain(l []api.Version) stretch {
	from := uintptr(unsafe.Pointer(unsafe.SliceData(l)))
	return stretch{from, from + uintptr(cap(l))*unsafe.Sizeof(api.Version{})}
}

// stretches are where all texts and chains of some entries stand.
func stretches(l []block.Entry) []stretch {
	var all []stretch
	for _, entry := range l {
		all = append(all, ofText(entry.Key), ofChain(entry.Chain))
		for _, v := range entry.Chain {
			all = append(all, ofText(v.Value))
		}
	}
	return all
}

// checkApart holds that no two of them share memory.
func checkApart(t *testing.T, all []stretch) {
	t.Helper()
	for i, a := range all {
		for _, b := range all[:i] {
			if a.from < b.to && b.from < a.to {
				t.Errorf("%v and %v share memory", a, b)
			}
		}
	}
}

// sharing is a block whose keys and values share much with one another, and are parts of one another.
func sharing() []block.Entry {
	return []block.Entry{
		with("abcdefgh", at(1, "abcdefgh"), at(2, "abcdefgh"), gone(3), at(4, "efgh")), with("abcdefghi", at(1, "abcdefgh")), with("abcdefghij", at(1, "abcdefghij"), at(2, "abcdefghijk")),
		with("b", at(1, "b")), with("bcdefgh", at(1, "abcdefgh"), at(3, "bcdefgh")),
	}
}

// P10.1, R5: what Decode answers is new memory, of which no two texts or chains share any, nor with the bytes that were handed in.
func TestDecodeIsNew(t *testing.T) {
	inside := mustInside(t, sharing())
	for _, b := range []string{packed(t, inside), stored(inside), inParts(inside)} {
		l, e := block.Decode(crc.Make(), b)
		if e != api.OK || !slices.EqualFunc(l, sharing(), same) {
			t.Fatalf("%v, error %d", briefly(l), e)
		}
		checkApart(t, append(stretches(l), ofText(b)))
		other, _ := block.Decode(crc.Make(), b)
		checkApart(t, append(stretches(l), stretches(other)...))
	}
}

// P10.1, R5: nor does it change when these bytes do, or another answer.
func TestDecodeStays(t *testing.T) {
	room := []byte(stored(mustInside(t, sharing())))
	lent := unsafe.String(&room[0], len(room))
	l, _ := block.Decode(crc.Make(), lent)
	other, _ := block.Decode(crc.Make(), lent)
	for i := range other {
		for j := range other[i].Chain {
			other[i].Chain[j] = gone(99)
		}
		other[i].Chain = append(other[i].Chain, gone(100))
	}
	clear(room)
	if !slices.EqualFunc(l, sharing(), same) {
		t.Errorf("it became %v", briefly(l))
	}
	for i := range l {
		l[i].Chain = append(l[i].Chain, gone(100))
	}
	for i, entry := range sharing() {
		if !slices.Equal(l[i].Chain, append(entry.Chain, gone(100))) {
			t.Errorf("chain %d became %v", i, l[i].Chain)
		}
	}
}

// P10.1, R5: what Inside and Encode answer doesn't change when what was handed in does.
func TestEncodedStays(t *testing.T) {
	room := []byte("abcdefgh")
	lent := unsafe.String(&room[0], len(room))
	l := []block.Entry{with(lent, at(1, lent), at(2, lent[2:]))}
	inside, _ := block.Inside(l)
	b, _ := block.Encode(crc.Make(), l)
	wantInside, want := strings.Clone(inside), strings.Clone(b)
	clear(room)
	l[0].Key = "other"
	l[0].Chain[0] = gone(1)
	if inside != wantInside || b != want {
		t.Errorf("%x became %x, %x became %x", wantInside, inside, want, b)
	}
}

// P10.1, R3: beside an error there is nothing.
func TestNothingBesideAnError(t *testing.T) {
	entries := "\x00\x01k" + goneAt1 + "\x00\x01l" + goneAt1
	for _, b := range []string{"", "abc", stored("\x03" + entries), stored("\x03" + entries + "\x00\x01a" + goneAt1), stored("\x02" + entries + "\x00"), stored("\x03" + entries + "\x00\x01m" + tooLong()), summed("\xe1\xd4\x03")} {
		if l, e := block.Decode(crc.Make(), b); len(l) != 0 || e == api.OK {
			t.Errorf("Decode(%x): %v, error %d", brief(b), briefly(l), e)
		}
	}
}
