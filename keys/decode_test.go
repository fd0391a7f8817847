package keys_test

import (
	"math"
	"math/rand/v2"
	"regexp"
	"strings"
	"testing"

	"isogloss/api"
	"isogloss/keys"
)

// form tells which bytes are tuples', each byte read as the rune of its number.
var form = regexp.MustCompile(`(?s)\A(?:` + strings.Join([]string{
	`\x10`, `[\x20\x21]`, `[\x30\x40].{8}`, `\x50(?:[^\x00]|\x00\xff)*\x00\x00`,
	`\xef`, `[\xde\xdf]`, `[\xbf\xcf].{8}`, `\xaf(?:[^\xff]|\xff\x00)*\xff\xff`,
}, "|") + `)*\z`)

// isTuple tells whether some tuple has these bytes.
func isTuple(b string) bool {
	runes := make([]rune, len(b))
	for i := range len(b) {
		runes[i] = rune(b[i])
	}
	return form.MatchString(string(runes))
}

// checkDecode holds what Decode makes of any bytes against the form, and turned into bytes again.
func checkDecode(t *testing.T, b string) {
	t.Helper()
	l, e := keys.Decode(b)
	if !isTuple(b) {
		if len(l) != 0 || e != api.ErrForm {
			t.Errorf("Decode(%x), which no tuple has: %#v, error %d", b, l, e)
		}
		return
	}
	if e != api.OK {
		t.Errorf("Decode(%x): error %d", b, e)
		return
	}
	if again, e := keys.Encode(l...); again != b || e != api.OK {
		t.Errorf("Decode(%x): %#v, whose bytes are %x, error %d", b, l, again, e)
	}
}

// P3.1: bytes that no tuple has.
func TestDecodeWrong(t *testing.T) {
	for _, s := range []string{
		"00", "01", "0f", "11", "1f", "22", "2f", "31", "3f", "41", "4f", "51", "60", "7f", "80", "90", "9f", "ae", "b0", "c0", "d0",
		"dd", "e0", "ee", "f0", "ff",
		"30", "30 00000000000000", "40", "40 ffffffffffffff", "cf", "cf 00000000000000", "bf", "bf ffffffffffffff",
		"50", "50 00", "50 61", "50 6100", "50 00ff", "50 00ff00", "50 0001", "50 00fe 0000", "50 0061 0000", "50 61ff", "50 610050",
		"af", "af ff", "af 9e", "af 9eff", "af ff00", "af ff00ff", "af ff01", "af fffe ffff", "af ff9e ffff", "af 0000", "af 9effaf",
		"10 00", "10 ff", "21 50 6100", "21 22", "50 0000 00", "50 0000 0000", "50 0000 ff", "af ffff ff", "af ffff ffff", "af ffff 00",
		"30 8000000000000001 00", "40 0000000000000001 ff", "10 30 80000000000000",
		"50 61 ffff", "af 9e 0000", "50 ffff", "af 0000 af",
	} {
		b := bytesOf(t, s)
		if l, e := keys.Decode(b); len(l) != 0 || e != api.ErrForm {
			t.Errorf("Decode(%x): %#v, error %d", b, l, e)
		}
	}
}

// P3.1: valid bytes that are cut short at each place.
func TestDecodeCutShort(t *testing.T) {
	for _, c := range written() {
		b := bytesOf(t, c.want)
		for i := range len(b) + 1 {
			checkDecode(t, b[:i])
		}
	}
	for _, v := range items() {
		b := mustEncode(t, v)
		for i := 1; i < len(b); i++ {
			if l, e := keys.Decode(b[:i]); len(l) != 0 || e != api.ErrForm {
				t.Errorf("Decode(%x), cut short: %#v, error %d", b[:i], l, e)
			}
			if l, e := keys.Decode("\x10" + b[:i]); len(l) != 0 || e != api.ErrForm {
				t.Errorf("Decode(10 %x), cut short: %#v, error %d", b[:i], l, e)
			}
		}
	}
}

// P3.1: valid bytes of which any one is turned into any other.
func TestDecodeOneByteTurned(t *testing.T) {
	for _, p := range tuples() {
		b := mustEncode(t, tupleAt(p)...)
		if len(p) > 1 && len(b) > 12 {
			continue
		}
		checkEachByteTurned(t, b)
	}
	for _, c := range written() {
		checkEachByteTurned(t, bytesOf(t, c.want))
	}
}

func checkEachByteTurned(t *testing.T, b string) {
	t.Helper()
	for i := range len(b) {
		turned := []byte(b)
		for range 255 {
			turned[i]++
			checkDecode(t, string(turned))
		}
	}
}

// P3.1: all bytes of up to two, and many of up to six that stand in strings and at their ends.
func TestDecodeShort(t *testing.T) {
	checkDecode(t, "")
	for i := range 256 {
		checkDecode(t, string([]byte{byte(i)}))
		for j := range 256 {
			checkDecode(t, string([]byte{byte(i), byte(j)}))
		}
	}
	alphabet := "\x00\xff\x50\xaf\x61\x10"
	var grow func(b string)
	grow = func(b string) {
		checkDecode(t, b)
		if len(b) == 6 {
			return
		}
		for i := range len(alphabet) {
			grow(b + alphabet[i:i+1])
		}
	}
	grow("")
}

// P3.1, P3.2: many tuples come again of their bytes.
func TestComesAgain(t *testing.T) {
	for _, p := range tuples() {
		l := tupleAt(p)
		b := mustEncode(t, l...)
		if got, e := keys.Decode(b); e != api.OK || !sameTuple(got, l) {
			t.Errorf("Decode(%x): %#v, error %d, not %#v", b, got, e, l)
		}
	}
	all := items()
	b := mustEncode(t, all...)
	if got, e := keys.Decode(b); e != api.OK || !sameTuple(got, all) {
		t.Errorf("all items don't come again: error %d", e)
	}
}

// randomItem is an item of any kind.
func randomItem(r *rand.Rand) any {
	var v any
	switch r.IntN(6) {
	case 0:
	case 1:
		v = r.IntN(2) == 1
	case 2:
		v = int64(r.Uint64()) >> r.IntN(64)
	case 3:
		v = r.Uint64() >> r.IntN(64)
	default:
		b := make([]byte, r.IntN(6))
		for i := range b {
			b[i] = "\x00\x00\xff\xffa\x01\xfe"[r.IntN(7)]
		}
		v = string(b)
	}
	if r.IntN(2) == 1 {
		return keys.Down{Item: v}
	}
	return v
}

// randomTuple is a tuple of up to five items.
func randomTuple(r *rand.Rand) []any {
	l := make([]any, r.IntN(6))
	for i := range l {
		l[i] = randomItem(r)
	}
	return l
}

// P3.1, P3.2: random tuples come again, and their bytes are ordered as Compare orders them.
func TestRandomTuples(t *testing.T) {
	r := rand.New(rand.NewPCG(3, 3))
	for range 20000 {
		one, other := randomTuple(r), randomTuple(r)
		n := r.IntN(len(one) + 1)
		other = append(one[:n:n], other...)
		b, c := mustEncode(t, one...), mustEncode(t, other...)
		if got, e := keys.Decode(b); e != api.OK || !sameTuple(got, one) {
			t.Errorf("Decode(%x): %#v, error %d, not %#v", b, got, e, one)
		}
		if got, e := keys.Compare(one, other); e != api.OK || got != strings.Compare(b, c) {
			t.Errorf("Compare(%#v, %#v): %d, error %d; bytes %x, %x", one, other, got, e, b, c)
		}
	}
}

// P3.1: random bytes.
func TestDecodeRandom(t *testing.T) {
	r := rand.New(rand.NewPCG(4, 3))
	alphabet := "\x10\x20\x21\x30\x40\x50\x00\x00\xff\xff\xaf\xbf\xcf\xde\xdf\xefa"
	for range 50000 {
		b := make([]byte, r.IntN(24))
		for i := range b {
			b[i] = alphabet[r.IntN(len(alphabet))]
		}
		checkDecode(t, string(b))
	}
}

// P3.1: long strings, and many items.
func TestLong(t *testing.T) {
	var many []any
	for i := range 50000 {
		many = append(many, int64(i), keys.Down{Item: uint64(i)})
	}
	for _, l := range [][]any{
		many,
		{strings.Repeat("\x00", 1<<20), keys.Down{Item: strings.Repeat("\x00", 1<<20)}},
		{strings.Repeat("\xff", 1<<20), keys.Down{Item: strings.Repeat("\xff", 1<<20)}},
		{strings.Repeat("ab\x00", 60000), int64(math.MinInt64), keys.Down{Item: strings.Repeat("ab\x00", 60000)}},
	} {
		b := mustEncode(t, l...)
		if got, e := keys.Decode(b); e != api.OK || !sameTuple(got, l) {
			t.Errorf("%d bytes don't come again: error %d", len(b), e)
		}
		if got, e := keys.Decode(b[:len(b)-1]); e != api.ErrForm || len(got) != 0 {
			t.Errorf("%d bytes, cut short: %d items, error %d", len(b)-1, len(got), e)
		}
	}
}
