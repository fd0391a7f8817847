package block_test

import (
	"math/rand/v2"
	"slices"
	"strings"
	"testing"

	"isogloss/api"
	"isogloss/block"
	"isogloss/crc"
	"isogloss/lz"
)

// P10.1: the chapter's example: of no entries the inside is 00.
func TestExample(t *testing.T) {
	checkBlock(t, nil, "\x00")
	checkBlock(t, []block.Entry{}, "\x00")
	checkEncodeIs(t, nil, "\x01\x00\x00"+"\xc5\x25\x31\x04", api.OK)
	checkDecodeIs(t, "\x01\x00\x00"+"\xc5\x25\x31\x04", nil, api.OK)
}

// P10.1: insides of one entry, of two and of some, written out.
func TestWrittenOut(t *testing.T) {
	checkBlock(t, []block.Entry{with("k", at(5, "ab"))}, "\x01"+"\x00\x01k"+"\x08\x01\x05\x00\x00\x00\x02ab")
	checkBlock(t, []block.Entry{with("", gone(1))}, "\x01"+"\x00\x00"+"\x03\x01\x01\x01")
	checkBlock(t, []block.Entry{with("key1", gone(7)), with("key22", at(5, ""), gone(300))},
		"\x02"+"\x00\x04key1"+"\x03\x01\x07\x01"+"\x03\x0222"+"\x09\x02\x05\x00\x00\x00\x00\xa7\x02\x01")
	checkBlock(t, []block.Entry{with("a", at(5, "abcd"), gone(7), at(10, "abXd")), with("ab", at(5, "abcd")), with("b", gone(2))},
		"\x03"+"\x00\x01a"+"\x12\x03\x05\x00\x00\x00\x04abcd\x02\x01\x03\x00\x02\x01\x01X"+"\x01\x01b"+"\x0a\x01\x05\x00\x00\x00\x04abcd"+"\x00\x01b"+"\x03\x01\x02\x01")
}

// P10.1: bytes written out, also of an inside that layer 4 makes shorter.
func TestBytesWrittenOut(t *testing.T) {
	inside := "\x01" + "\x00\x01k" + "\x08\x01\x05\x00\x00\x00\x02ab"
	checkEncodeIs(t, []block.Entry{with("k", at(5, "ab"))}, "\x0d\x00"+inside+"\x67\xf3\x03\x50", api.OK)
	long := "\x01" + "\x00\x01k" + "\x6a\x01\x05\x00\x00\x00\x64" + "a"
	checkEncodeIs(t, []block.Entry{with("k", at(5, strings.Repeat("a", 100)))}, "\x6f\x01"+"\x0c"+long+"\x01\x63"+"\xbe\x21\x98\x5d", api.OK)
}

// P10.1: the last four bytes are layer 2's sum of those ahead, the greatest first; and layer 4 unpacks these.
func TestSumAndPacked(t *testing.T) {
	for _, l := range someBlocks() {
		b := mustEncode(t, l)
		ahead, last := b[:len(b)-4], b[len(b)-4:]
		sum := uint32(last[0])<<24 | uint32(last[1])<<16 | uint32(last[2])<<8 | uint32(last[3])
		if want := crc.Sum(crc.Make(), ahead); sum != want {
			t.Errorf("%v: sum %x, not %x", briefly(l), sum, want)
		}
		inside, e := lz.Unpack(ahead)
		if want := mustInside(t, l); inside != want || e != api.OK {
			t.Errorf("%v: %x, error %d, not %x", briefly(l), brief(inside), e, brief(want))
		}
		if want, e := lz.Pack(inside); ahead != want || e != api.OK {
			t.Errorf("%v: %x, not %x", briefly(l), brief(ahead), brief(want))
		}
	}
}

// P10.1: keys rise by their last byte, by a byte ahead of it, by being longer, and as bytes do, also those from 128 on.
func TestKeysRise(t *testing.T) {
	checkBlock(t, keyed("aa", "ab"), "\x02"+"\x00\x02aa"+goneAt1+"\x01\x01b"+goneAt1)
	checkBlock(t, keyed("az", "b"), "\x02"+"\x00\x02az"+goneAt1+"\x00\x01b"+goneAt1)
	checkBlock(t, keyed("a", "aa"), "\x02"+"\x00\x01a"+goneAt1+"\x01\x01a"+goneAt1)
	checkBlock(t, keyed("a", "a\x00"), "\x02"+"\x00\x01a"+goneAt1+"\x01\x01\x00"+goneAt1)
	checkBlock(t, keyed("\x7f", "\x80"), "\x02"+"\x00\x01\x7f"+goneAt1+"\x00\x01\x80"+goneAt1)
	checkBlock(t, keyed("a\x7f", "a\x80", "a\xff", "b"), "\x04"+"\x00\x02a\x7f"+goneAt1+"\x01\x01\x80"+goneAt1+"\x01\x01\xff"+goneAt1+"\x00\x01b"+goneAt1)
	checkBlock(t, keyed("\xfe\xff", "\xff", "\xff\x00"), "\x03"+"\x00\x02\xfe\xff"+goneAt1+"\x00\x01\xff"+goneAt1+"\x01\x01\x00"+goneAt1)
	checkBlock(t, keyed("z", "ä", "\xff"), "\x03"+"\x00\x01z"+goneAt1+"\x00\x02ä"+goneAt1+"\x00\x01\xff"+goneAt1)
}

// P10.1: equal keys, and keys that fall, are no block's, wherever they stand.
func TestKeysDontRise(t *testing.T) {
	pairs := [][2]string{{"a", "a"}, {"b", "a"}, {"ab", "aa"}, {"aa", "a"}, {"b", "aa"}, {"\x80", "\x7f"}, {"\xff", "a"}, {"a\x80", "a\x7f"}, {"\x00", ""}, {"a\x00", "a"}, {"\xff", "\xff"}, {"ä", "z"}}
	for _, pair := range pairs {
		checkArg(t, keyed(pair[0], pair[1]))
		checkArg(t, keyed(pair[0], pair[1], "\xff\xff"))
		checkArg(t, keyed("", pair[0], pair[1]))
		checkArg(t, keyed(pair[0], "\xff\xff", pair[1]))
	}
	checkArg(t, keyed("a", "b", "a"))
	checkArg(t, keyed("a", "c", "b", "d"))
	checkArg(t, keyed("a", "b", "c", "d", "d"))
}

// P10.1: an empty key may be the first one, and no other.
func TestEmptyKey(t *testing.T) {
	checkBlock(t, keyed("", "\x00"), "\x02"+"\x00\x00"+goneAt1+"\x00\x01\x00"+goneAt1)
	checkBlock(t, keyed("", "a", "ab"), "\x03"+"\x00\x00"+goneAt1+"\x00\x01a"+goneAt1+"\x01\x01b"+goneAt1)
	checkArg(t, keyed("", ""))
	checkArg(t, keyed("a", ""))
	checkArg(t, keyed("a", "", "b"))
	checkArg(t, keyed("", "a", ""))
}

// P10.1: no word of the chapter bounds a key, nor a value: one may be longer than MaxKey, or MaxValue.
func TestLongKeysAndValues(t *testing.T) {
	for _, n := range []int{api.MaxKey, api.MaxKey + 1, api.MaxValue + 1, api.MaxMessage + 1, 29000} {
		key, value := strings.Repeat("k", n), strings.Repeat("v", n)
		versions := "\x01\x05\x00\x00\x00" + textBytes(value)
		checkBlock(t, []block.Entry{with(key, at(5, value))}, "\x01"+"\x00"+textBytes(key)+textBytes(versions))
	}
}

// P10.1: a key shares with the one ahead of it nothing, all of it, all but its last byte, or some.
func TestShared(t *testing.T) {
	for _, c := range []struct {
		last, key string
		begins    int
	}{
		{"abc", "bcd", 0}, {"abc", "abcd", 3}, {"abc", "abd", 2}, {"abc", "ad", 1}, {"abc", "abd\xff", 2}, {"abc", "abcabc", 3}, {"abc", "b", 0}, {"", "abc", 0},
		{"aaaa", "aaaaaaaa", 4}, {"aaaa", "aab", 2}, {"a", "ab", 1}, {"a", "b", 0}, {"abXc", "abYc", 2}, {"Xbc", "Ybc", 0}, {"\x00\x80\xff", "\x00\x80\xff\x00", 3}, {"ä", "ö", 1},
		{strings.Repeat("k", 127), strings.Repeat("k", 128), 127}, {strings.Repeat("k", 128), strings.Repeat("k", 129), 128}, {strings.Repeat("k", 400), strings.Repeat("k", 300) + "z", 300},
	} {
		head := "\x00" + textBytes(c.last) + goneAt1
		second := numberBytes(c.begins) + textBytes(c.key[c.begins:]) + goneAt1
		checkBlock(t, keyed(c.last, c.key), "\x02"+head+second)
	}
}

// P10.1: the first key shares nothing; each other one shares with the one just ahead, not with one from ahead of that.
func TestSharedWithJustAhead(t *testing.T) {
	checkBlock(t, keyed("abc"), "\x01"+"\x00\x03abc"+goneAt1)
	checkBlock(t, keyed("abc", "abd", "b", "bbd"), "\x04"+"\x00\x03abc"+goneAt1+"\x02\x01d"+goneAt1+"\x00\x01b"+goneAt1+"\x01\x02bd"+goneAt1)
	checkBlock(t, keyed("abc", "ac", "acc", "ad"), "\x04"+"\x00\x03abc"+goneAt1+"\x01\x01c"+goneAt1+"\x02\x01c"+goneAt1+"\x01\x01d"+goneAt1)
	checkBlock(t, keyed("abc", "abcde", "abcdf"), "\x03"+"\x00\x03abc"+goneAt1+"\x03\x02de"+goneAt1+"\x04\x01f"+goneAt1)
}

// wrongChains are lists that layer 9 says are no chains, and one of no version.
func wrongChains() [][]api.Version {
	var many []api.Version
	for i := range uint64(api.MaxVersions + 1) {
		many = append(many, gone(i+1))
	}
	return [][]api.Version{
		nil, {}, {{}}, {at(0, "a")}, {gone(0)}, {at(5, "a"), at(5, "b")}, {at(5, "a"), at(4, "b")}, {gone(1), gone(3), gone(2)}, {{Time: 1, Gone: true, Value: "a"}}, many,
	}
}

// P10.1: a chain of no version, and one that is none, are no block's, at each place.
func TestWrongChains(t *testing.T) {
	for _, wrong := range wrongChains() {
		for _, n := range []int{1, 2, 3, 10} {
			for i := range n {
				l := keyed(strings.Split("abcdefghij", "")[:n]...)
				mustInside(t, l)
				l[i].Chain = wrong
				checkArg(t, l)
			}
		}
	}
	most := make([]api.Version, api.MaxVersions)
	for i := range most {
		most[i] = gone(uint64(i + 1))
	}
	checkBlock(t, []block.Entry{with("k", most...)}, "\x01"+"\x00\x01k"+textBytes("\xc8\x01"+strings.Repeat("\x01\x01", 200)))
}

// P10.1, R2: of several entries' errors one is told, as of one; and nothing stands beside it.
func TestSeveralErrors(t *testing.T) {
	for _, wrong := range wrongChains() {
		checkArg(t, []block.Entry{with("b", wrong...), with("a", gone(1))})
		checkArg(t, []block.Entry{with("b", gone(1)), with("a", wrong...)})
		checkArg(t, []block.Entry{with("b", wrong...), with("b", wrong...), with("a", wrong...)})
	}
}

// P10.1: keys and chains of several entries at random, right and wrong ones, held against the slow Inside.
func TestInsideAtRandom(t *testing.T) {
	r := rand.New(rand.NewPCG(10, 2))
	counts := map[api.Errno]int{}
	for range 20000 {
		l := randomBlock(r, 8)
		if n := len(l); n > 0 && r.IntN(3) == 0 {
			switch i, j := r.IntN(n), r.IntN(n); r.IntN(4) {
			case 0:
				l[i], l[j] = l[j], l[i]
			case 1:
				l[i].Key = l[j].Key
			case 2:
				l[i].Chain = wrongChains()[r.IntN(len(wrongChains()))]
			case 3:
				l[i].Key = randomText(r, 4)
			}
		}
		want, e := slowInside(l)
		checkInsideIs(t, l, want, e)
		counts[e]++
	}
	if counts[api.OK] < 10000 || counts[api.ErrArg] < 2000 {
		t.Errorf("%v: too few of a kind", counts)
	}
}

// filled is a block whose inside has n bytes, n being great: one value fills it, or a key, or many entries do.
func filled(t *testing.T, n int) [][]block.Entry {
	t.Helper()
	value := func(length int) []block.Entry {
		return []block.Entry{with("k", at(5, strings.Repeat("v", length)))}
	}
	key := func(length int) []block.Entry { return keyed("a", strings.Repeat("k", length)) }
	many := func(length int) []block.Entry {
		l := keyed("")
		for len(l) < 255 {
			l = append(l, with(string([]byte{byte(len(l)), 'x'}), at(1, strings.Repeat("v", 200))))
		}
		return append(l, with("\xff\xff", at(1, strings.Repeat("w", length))))
	}
	var l [][]block.Entry
	for _, of := range []func(int) []block.Entry{value, key, many} {
		length := 2*n - len(mustInside(t, of(n)))
		for len(mustInside(t, of(length))) < n { // the number of a length may have become a byte shorter
			length++
		}
		if got := len(mustInside(t, of(length))); got != n {
			t.Fatalf("%d bytes, not %d", got, n)
		}
		l = append(l, of(length))
	}
	return l
}

// P10.1: an inside of MaxBytes bytes, and of one fewer, is packed; of one more it is too long, though it packs well.
func TestEncodeLong(t *testing.T) {
	for _, n := range []int{api.MaxBytes - 1, api.MaxBytes} {
		for _, l := range filled(t, n) {
			checkBlock(t, l, mustInside(t, l))
		}
	}
	for _, n := range []int{api.MaxBytes + 1, api.MaxBytes + 2, 2 * api.MaxBytes} {
		for _, l := range filled(t, n) {
			checkEncodeIs(t, l, "", api.ErrLong)
		}
	}
}

// P10.1: a longer one has an inside, all the same.
func TestInsideLong(t *testing.T) {
	value := strings.Repeat("v", 100000)
	versions := "\x01\x05\x00\x00\x00" + textBytes(value)
	checkInsideIs(t, []block.Entry{with("k", at(5, value))}, "\x01"+"\x00\x01k"+textBytes(versions), api.OK)
	key := strings.Repeat("k", 70000)
	checkInsideIs(t, keyed(key, key+key), "\x02"+"\x00"+textBytes(key)+goneAt1+numberBytes(len(key))+textBytes(key)+goneAt1, api.OK)
}

// P10.1, R2: Inside's error goes ahead of Pack's.
func TestEncodeArgAheadOfLong(t *testing.T) {
	long := at(5, strings.Repeat("v", api.MaxBytes+1))
	checkEncodeIs(t, []block.Entry{with("k", long)}, "", api.ErrLong)
	checkEncodeIs(t, []block.Entry{with("k", long), with("k", gone(1))}, "", api.ErrArg)
	checkEncodeIs(t, []block.Entry{with("k", long), with("l")}, "", api.ErrArg)
	checkEncodeIs(t, []block.Entry{with("k", long), with("l", gone(0))}, "", api.ErrArg)
	checkEncodeIs(t, []block.Entry{with("j"), with("k", long)}, "", api.ErrArg)
	checkEncodeIs(t, []block.Entry{with("k", long, long)}, "", api.ErrArg)
}

// P10.1, R5: what is handed in is left as it is: entries, chains, their spare room, and the table.
func TestHandedInIsLeft(t *testing.T) {
	for _, l := range someBlocks() {
		room := deepClone(append(slices.Clone(l), keyed("spare", "room")...))
		for i := range room {
			room[i].Chain = append(room[i].Chain, at(77, "spare"))[:len(room[i].Chain)]
		}
		before := spread(room)
		table, made := crc.Make(), crc.Make()
		block.Inside(room[:len(l)])
		block.Encode(table, room[:len(l)])
		block.Find(room[:len(l)], "k")
		block.Decode(table, mustEncode(t, l))
		if !slices.EqualFunc(spread(room), before, same) || table != made {
			t.Errorf("%v became %v", briefly(before), briefly(room))
		}
	}
}

// spread are entries with all that stands in the room of their chains.
func spread(l []block.Entry) []block.Entry {
	l = slices.Clone(l)
	for i := range l {
		l[i].Chain = slices.Clone(l[i].Chain[:cap(l[i].Chain)])
	}
	return l
}

// P10.1, R7: calls don't hang on those ahead of them.
func TestCallsAreTheirOwn(t *testing.T) {
	for _, l := range someBlocks() {
		inside := mustInside(t, l)
		block.Decode(crc.Make(), mustEncode(t, l)+"\x00")
		block.Encode(crc.Table{}, l)
		block.Decode(crc.Table{}, mustEncode(t, l))
		checkBlock(t, keyed("q"), "\x01"+"\x00\x01q"+goneAt1)
		checkArg(t, keyed("b", "a"))
		checkBlock(t, l, inside)
	}
}
