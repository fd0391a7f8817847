package mvcc_test

import (
	"encoding/binary"
	"hash/crc32"
	"math/rand/v2"
	"strings"
	"testing"

	"isogloss/api"
	"isogloss/block"
	"isogloss/chain"
	"isogloss/crc"
	"isogloss/mvcc"
)

// with is an entry of a block.
func with(key string, versions ...api.Version) block.Entry {
	return block.Entry{Key: key, Chain: versions}
}

// bytesOf are the bytes of a block of these.
func bytesOf(t *testing.T, l ...block.Entry) string {
	t.Helper()
	b, e := block.Encode(crc.Make(), l)
	if e != api.OK {
		t.Fatalf("Encode: error %d", e)
	}
	return b
}

// summed are bytes with their sum behind them, as the library makes it.
func summed(b string) string {
	sum := crc32.Checksum([]byte(b), crc32.MakeTable(crc32.Castagnoli))
	return b + string(binary.BigEndian.AppendUint32(nil, sum))
}

// checkLoadError holds that Load answers this error, and no store.
func checkLoadError(t *testing.T, b string, want api.Errno) {
	t.Helper()
	if s, e := mvcc.Load(crc.Make(), b); s != nil || e != want {
		t.Errorf("Load(%x, of %d): store %t, error %d, not %d", brief(b), len(b), s != nil, e, want)
	}
}

// mustLoad is the store of what is an image.
func mustLoad(t *testing.T, b string) *mvcc.Store {
	t.Helper()
	s, e := mvcc.Load(crc.Make(), b)
	if s == nil || e != api.OK {
		t.Fatalf("Load(%x, of %d): error %d", brief(b), len(b), e)
	}
	return s
}

// P11.2: an image of no keys is a block of no entries.
func TestImageOfNone(t *testing.T) {
	b, e := mvcc.New().Image(crc.Make())
	if b != bytesOf(t) || b != summed("\x01\x00\x00") || e != api.OK {
		t.Errorf("%x, error %d", b, e)
	}
}

// P11.2: an image of some keys is a block of them, in their order, with all their versions.
func TestImage(t *testing.T) {
	b := holding(t, has{"key2", at(5, "ab")}, has{"k", at(1, "x")}, has{"key1", gone(7)}, has{"k", gone(2)}, has{"k", at(9, "xy")})
	got, e := b.fast.Image(crc.Make())
	if got != bytesOf(t, with("k", at(1, "x"), gone(2), at(9, "xy")), with("key1", gone(7)), with("key2", at(5, "ab"))) || e != api.OK {
		t.Errorf("%x, error %d", got, e)
	}
	b = holding(t, has{"k", at(5, "ab")})
	got, e = b.fast.Image(crc.Make())
	if want := summed("\x0d\x00" + "\x01\x00\x01k" + "\x08" + "\x01\x05\x00\x00\x00\x02ab"); got != want || e != api.OK {
		t.Errorf("%x, error %d, not %x", got, e, want)
	}
}

// P11.2: it is made with the table that is handed on, which is left as it is.
func TestImageTable(t *testing.T) {
	other := crc.Make()
	for i := range other {
		other[i] ^= 0x1234567
	}
	before := other
	b := fruit(t)
	got, e := b.fast.Image(other)
	want, _ := block.Encode(other, b.slow.entries())
	if got != want || e != api.OK || other != before {
		t.Errorf("%x, error %d, not %x", got, e, want)
	}
	if s, e := mvcc.Load(other, got); e != api.OK {
		t.Errorf("Load: error %d", e)
	} else {
		(&both{t, s, b.slow}).checkAll()
	}
	if other != before {
		t.Errorf("the table has changed")
	}
	checkLoadError(t, got, api.ErrForm)
	image, _ := b.fast.Image(crc.Make())
	if s, e := mvcc.Load(other, image); s != nil || e != api.ErrForm {
		t.Errorf("error %d", e)
	}
}

// big is a store of so many keys, each with a long value that shares nothing with others.
func big(t *testing.T, n int) *both {
	t.Helper()
	b := newBoth(t)
	r := rand.New(rand.NewPCG(11, 2))
	for i := range n {
		value := make([]byte, 490)
		for j := range value {
			value[j] = byte(r.Uint32())
		}
		b.install("k"+string([]byte{byte(i)}), at(uint64(i+1), string(value)), api.OK)
	}
	return b
}

// P11.2: where all of it is too long for a block, Encode's error is told; beside it there is nothing, and the store is as it was.
func TestImageTooLong(t *testing.T) {
	b := big(t, 118)
	b.checkAll()
	b.again().checkAll()
	for i := range 10 {
		b.install("more"+string([]byte{byte(i)}), at(1, strings.Repeat("v", 490)), api.OK)
	}
	for range 2 {
		if image, e := b.fast.Image(crc.Make()); image != "" || e != api.ErrLong {
			t.Errorf("of %d bytes, error %d", len(image), e)
		}
		b.checkAll()
	}
}

// insideOf is how many bytes a block's inside would have of what the stores have, and one key more.
func insideOf(t *testing.T, b *both, key string, v api.Version) int {
	t.Helper()
	inside, e := block.Inside(append(b.slow.entries(), with(key, v)))
	if e != api.OK {
		t.Fatalf("error %d", e)
	}
	return len(inside)
}

// P11.2: just as many bytes as a block's inside may have, and one more.
func TestImageLimit(t *testing.T) {
	b := big(t, 119)
	n := api.MaxValue
	for insideOf(t, b, "l", at(1, strings.Repeat("v", n))) != api.MaxBytes {
		n--
	}
	beyond := b.again()
	b.install("l", at(1, strings.Repeat("v", n)), api.OK)
	b.again().checkAll()
	b.checkAll()
	beyond.install("l", at(1, strings.Repeat("v", n+1)), api.OK)
	if image, e := beyond.fast.Image(crc.Make()); image != "" || e != api.ErrLong {
		t.Errorf("an image of %d bytes, error %d", len(image), e)
	}
	beyond.checkAll()
}

// P11.2: what is no block's bytes.
func TestLoadForm(t *testing.T) {
	image, _ := fruit(t).fast.Image(crc.Make())
	for cut := range image {
		checkLoadError(t, image[:cut], api.ErrForm)
		other := []byte(image)
		other[cut] ^= 0x10
		checkLoadError(t, string(other), api.ErrForm)
	}
	for _, b := range []string{"", "\x00", "\x00\x00\x00", "\x00\x00\x00\x00", "k", image + "\x00", "\x00" + image, image + image, summed(""), summed("\x00"), summed("\x01"), summed("\x01\x01"), summed("\x02\x00\x01"), summed(image)} {
		checkLoadError(t, b, api.ErrForm)
	}
}

// P11.2: what is summed aright, but is no block's inside.
func TestLoadInside(t *testing.T) {
	for _, inside := range []string{
		"\x01", "\x02" + "\x00\x01k\x03\x01\x01\x01", "\x00\x00", "\x01" + "\x01\x01k\x03\x01\x01\x01", "\x01" + "\x00\x01k\x01\x00", "\x01" + "\x00\x01k\x04\x01\x00\x00\x00",
		"\x01" + "\x00\x01k\x03\x01\x00\x01", "\x01" + "\x00\x01k\x03\x01\x01\x02", "\x02" + "\x00\x01k\x03\x01\x01\x01" + "\x01\x00\x03\x01\x01\x01", "\x02" + "\x00\x01k\x03\x01\x01\x01" + "\x00\x01a\x03\x01\x01\x01",
	} {
		checkLoadError(t, summed(string([]byte{byte(len(inside))})+"\x00"+inside), api.ErrForm)
	}
	mustLoad(t, summed("\x08\x00"+"\x01"+"\x00\x01k\x03\x01\x01\x01"))
}

// P11.2: bytes that say more than MaxBytes, and a chain whose values are too long, are too long.
func TestLoadLong(t *testing.T) {
	checkLoadError(t, summed("\xe1\xd4\x03"), api.ErrLong)
	checkLoadError(t, summed("\xe1\xd4\x03\x00"+strings.Repeat("a", api.MaxBytes+1)), api.ErrLong)
	checkLoadError(t, "\xe1\xd4\x03\x00\x00\x00\x00", api.ErrForm)
	value := strings.Repeat("v", 40000)
	checkLoadError(t, bytesOf(t, with("a", at(1, "v")), with("k", at(1, value), at(2, value)), with("l", at(1, "v"))), api.ErrLong)
}

// P11.2, R2: Decode's error goes ahead of a key or a value that is too long.
func TestLoadDecodeFirst(t *testing.T) {
	key, longer, value := strings.Repeat("a", api.MaxKey+1), strings.Repeat("v", api.MaxValue+1), strings.Repeat("v", 30001)
	checkLoadError(t, bytesOf(t, with(key, at(1, value), at(2, value))), api.ErrLong)
	checkLoadError(t, bytesOf(t, with(key, at(1, "v")), with("b", at(1, value), at(2, value))), api.ErrLong)
	checkLoadError(t, bytesOf(t, with("a", at(1, longer)), with("b", at(1, value), at(2, value))), api.ErrLong)
	checkLoadError(t, bytesOf(t, with("a", at(1, value), at(2, value)), with("b", at(1, longer))), api.ErrLong)
}

// checkLoads holds that Load answers a store of just these.
func checkLoads(t *testing.T, l ...block.Entry) {
	t.Helper()
	b := &both{t, mustLoad(t, bytesOf(t, l...)), newSlow()}
	for _, entry := range l {
		for _, v := range entry.Chain {
			if e := b.slow.install(entry.Key, v); e != api.OK {
				t.Fatalf("error %d", e)
			}
		}
	}
	b.checkAll()
}

// P11.2: a key of MaxKey bytes, and of one more, at each place among others.
func TestLoadLongKey(t *testing.T) {
	for _, part := range []string{"A", "k", "\xff", "\x00"} {
		most := strings.Repeat(part, api.MaxKey)
		for _, v := range []api.Version{at(1, "v"), at(5, ""), gone(1)} {
			checkLoads(t, with(most, v))
			checkLoadError(t, bytesOf(t, with(most+"k", v)), api.ErrForm)
			checkLoadError(t, bytesOf(t, with(strings.Repeat(part, 50000), v)), api.ErrForm)
			checkLoads(t, with(most[1:], v), with(most, v))
			checkLoadError(t, bytesOf(t, with(most, v), with(most+"k", v)), api.ErrForm)
			checkLoadError(t, bytesOf(t, with("", v), with(most+"k", v), with("\xff"+most[1:]+"\xff", v)), api.ErrForm)
			checkLoadError(t, bytesOf(t, with(most+"\x00", v), with("\xff\xff"+most[2:]+"\xff\xff", v)), api.ErrForm)
		}
	}
}

// P11.2: a value of MaxValue bytes, and of one more, at each place among others.
func TestLoadLongValue(t *testing.T) {
	most := strings.Repeat("v", api.MaxValue)
	longer := most + "v"
	checkLoads(t, with("k", at(1, most)))
	checkLoads(t, with("a", at(1, "v")), with("k", at(1, "v"), at(2, most), gone(3), at(4, most)), with("z", at(1, most)))
	for _, long := range []string{longer, strings.Repeat("v", 50000)} {
		checkLoadError(t, bytesOf(t, with("k", at(1, long))), api.ErrForm)
		checkLoadError(t, bytesOf(t, with("", at(1, long))), api.ErrForm)
		checkLoadError(t, bytesOf(t, with("k", at(1, long), at(2, "v"))), api.ErrForm)
		checkLoadError(t, bytesOf(t, with("k", at(1, "v"), gone(2), at(3, long))), api.ErrForm)
		checkLoadError(t, bytesOf(t, with("k", at(1, "v"), at(2, long), gone(3))), api.ErrForm)
		checkLoadError(t, bytesOf(t, with("a", at(1, long)), with("k", at(1, "v")), with("z", at(1, "v"))), api.ErrForm)
		checkLoadError(t, bytesOf(t, with("a", at(1, "v")), with("k", at(1, long)), with("z", at(1, "v"))), api.ErrForm)
		checkLoadError(t, bytesOf(t, with("a", at(1, "v")), with("k", at(1, "v")), with("z", at(1, long))), api.ErrForm)
	}
}

// P11.2, P3: a store comes again of its image, and its image is the same.
func TestLoad(t *testing.T) {
	for _, b := range []*both{newBoth(t), fruit(t), full(t, "k", api.MaxVersions-1), full(t, "", api.MaxVersions), big(t, 60), holding(t, has{"", gone(1)}), holding(t, has{"k", at(greatest, "")})} {
		other := b.again()
		other.checkAll()
		other.again().checkAll()
		b.checkAll()
	}
}

// P11.2: behind a load more is installed, or refused, as ever.
func TestInstallBehindLoad(t *testing.T) {
	b := fruit(t).again()
	b.refuse("b", at(10, "v"), api.ErrConflict)
	b.refuse("b", at(9, "v"), api.ErrConflict)
	b.refuse("b", at(0, "v"), api.ErrArg)
	for i, key := range []string{"b", "", "z", "c", "b\x00", "da", "\xff", "f"} {
		b.install(key, at(uint64(40+i), key+key), api.OK)
		b.checkAll()
	}
	b.again().checkAll()
	b = full(t, "k", api.MaxVersions-1).again()
	b.install("k", at(1000, "v"), api.OK)
	b.refuse("k", at(1001, "v"), api.ErrMany)
	b.again().refuse("k", at(1001, "v"), api.ErrMany)
}

// P11.2: values that share much make an image whose chain layer 10 decodes as too long; the store has them nonetheless.
func TestImageOfMuch(t *testing.T) {
	b := newBoth(t)
	for i := range 121 {
		b.install("k", at(uint64(i+1), strings.Repeat("v", api.MaxValue)), api.OK)
		if i == 119 {
			b.again().checkAll()
		}
	}
	b.checkAll()
	image, e := b.fast.Image(crc.Make())
	if l, _ := chain.Encode(b.slow.chains["k"]); len(l) > 2000 || e != api.OK {
		t.Fatalf("a chain of %d bytes, error %d", len(l), e)
	}
	checkLoadError(t, image, api.ErrLong)
}

// P11.2, P3: of whatever bytes an error is told, or a store whose image is of just these entries.
func TestLoadRandomly(t *testing.T) {
	r := rand.New(rand.NewPCG(11, 3))
	told := 0
	for range 3000 {
		image, _ := randomBoth(t, r, 12).fast.Image(crc.Make())
		b := []byte(image[:len(image)-4])
		b[r.IntN(len(b))] ^= 1 << r.IntN(8)
		changed := summed(string(b))
		want, wantE := block.Decode(crc.Make(), changed)
		if wantE != api.OK {
			checkLoadError(t, changed, wantE)
			continue
		}
		told++
		checkLoads(t, want...)
	}
	if told < 100 {
		t.Errorf("only %d were images", told)
	}
}
