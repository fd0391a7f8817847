package mvcc_test

import (
	"slices"
	"strings"
	"testing"
	"unsafe"

	"isogloss/api"
	"isogloss/crc"
	"isogloss/mvcc"
)

// lent is a text that stands in some memory of which more is known.
func lent(room []byte) string {
	return unsafe.String(unsafe.SliceData(room), len(room))
}

// overwrite writes over the memory of a text, which is the test's own.
func overwrite(s string) {
	if s != "" {
		room := unsafe.Slice(unsafe.StringData(s), len(s))
		for i := range room {
			room[i] = '#'
		}
	}
}

// P11.1, R5: what is installed is the store's own: it stays, whatever becomes of what was handed in.
func TestInstalledIsOwn(t *testing.T) {
	b := newBoth(t)
	for i, key := range []string{"key", "a", "key", "key"} {
		value := strings.Repeat(key, i+1)
		b.slow.install(key, at(uint64(i+1), value))
		lentKey, lentValue := lent([]byte(key)), lent([]byte(value))
		if e := b.fast.Install(lentKey, at(uint64(i+1), lentValue)); e != api.OK {
			t.Errorf("error %d", e)
		}
		overwrite(lentKey)
		overwrite(lentValue)
		b.checkAll()
	}
}

// P11.1, P11.2, R5: what is asked with is left as it is, and isn't kept.
func TestAskedIsLeft(t *testing.T) {
	b := fruit(t)
	lo, hi, key := lent([]byte("b")), lent([]byte("m")), lent([]byte("d"))
	b.fast.At(key, 20)
	b.fast.Last(key)
	b.fast.Room(key)
	writes := b.fast.Scan(lo, hi, 20, 9)
	b.fast.Install(key, at(50, hi))
	b.slow.install("d", at(50, "m"))
	if lo != "b" || hi != "m" || key != "d" {
		t.Errorf("they became %q, %q, %q", lo, hi, key)
	}
	overwrite(lo)
	overwrite(hi)
	overwrite(key)
	if !slices.Equal(writes, []api.Write{write("b", "B"), write("d", ""), write("da", "DA")}) {
		t.Errorf("what was answered became %v", writes)
	}
	b.checkAll()
}

// P11.1, R5: what At answers is new memory.
func TestAtIsNew(t *testing.T) {
	b := fruit(t)
	for _, stores := range []*both{b, b.again()} {
		one, _ := stores.fast.At("da", 10)
		other, _ := stores.fast.At("da", 10)
		overwrite(one.Value)
		if other != at(10, "DA") {
			t.Errorf("the other one became %v", other)
		}
		stores.checkAll()
	}
}

// P11.1, R5: each list of keys is a new one, and so are its keys.
func TestKeysAreNew(t *testing.T) {
	b := fruit(t)
	for _, stores := range []*both{b, b.again()} {
		one, other := stores.fast.Keys(), stores.fast.Keys()
		for i := range one {
			overwrite(one[i])
			one[i] = "other"
		}
		_ = append(one[:0], "x", "y", "z")
		_ = append(one, "behind")
		if !slices.Equal(other, stores.slow.keys()) {
			t.Errorf("the other list became %q", other)
		}
		stores.checkAll()
	}
}

// P11.2, R5: each list of writes is a new one, and so are its keys and values.
func TestScanIsNew(t *testing.T) {
	b := fruit(t)
	for _, stores := range []*both{b, b.again()} {
		want := stores.slow.scan("", "", 20, 9)
		one, other := stores.fast.Scan("", "", 20, 9), stores.fast.Scan("", "", 20, 9)
		for i := range one {
			overwrite(one[i].Key)
			overwrite(one[i].Value)
			one[i] = api.Write{Key: "other", Gone: true}
		}
		if !slices.Equal(other, want) {
			t.Errorf("the other list became %v", other)
		}
		stores.checkAll()
	}
}

// P11.2, R5: what Image answers is new memory, and stays when more is installed.
func TestImageIsNew(t *testing.T) {
	b := fruit(t)
	one, _ := b.fast.Image(crc.Make())
	other, _ := b.fast.Image(crc.Make())
	want := strings.Clone(one)
	b.install("b", gone(60), api.OK)
	b.install("", gone(60), api.OK)
	if one != want {
		t.Errorf("it became %x", one)
	}
	overwrite(one)
	if other != want {
		t.Errorf("the other one became %x", other)
	}
	b.checkAll()
}

// P11.2, R5: a loaded store keeps nothing of the bytes that were handed in, and leaves them as they are.
func TestLoadedIsOwn(t *testing.T) {
	b := fruit(t)
	image, _ := b.fast.Image(crc.Make())
	handed := lent([]byte(image))
	loaded := &both{t, mustLoad(t, handed), b.slow}
	if handed != image {
		t.Errorf("they became %x", handed)
	}
	overwrite(handed)
	loaded.checkAll()
	longer := strings.Repeat("k", api.MaxKey+1)
	wrong := bytesOf(t, with(longer, at(1, "v")))
	before := strings.Clone(wrong)
	if s, e := mvcc.Load(crc.Make(), wrong); s != nil || e != api.ErrForm || wrong != before {
		t.Errorf("error %d, %x", e, brief(wrong))
	}
}
