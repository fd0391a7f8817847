package mvcc_test

import (
	"strings"
	"testing"

	"isogloss/api"
)

// checkAtIs holds that At answers just this version, and true.
func checkAtIs(t *testing.T, b *both, key string, time uint64, want api.Version) {
	t.Helper()
	if v, ok := b.fast.At(key, time); v != want || !ok {
		t.Errorf("At(%q, %d): %v, %t, not %v", key, time, v, ok, want)
	}
}

// checkAtNone holds that At answers that there is none.
func checkAtNone(t *testing.T, b *both, key string, time uint64) {
	t.Helper()
	if v, ok := b.fast.At(key, time); v != (api.Version{}) || ok {
		t.Errorf("At(%q, %d): %v, %t", key, time, v, ok)
	}
}

// P11.1: below the first version there is none, from each on it, up to the next.
func TestAt(t *testing.T) {
	b := holding(t, has{"k", at(5, "a")}, has{"k", gone(10)}, has{"k", at(11, "")}, has{"k", gone(20)}, has{"k", at(30, "z")})
	for time := range uint64(5) {
		checkAtNone(t, b, "k", time)
	}
	for time := uint64(5); time < 10; time++ {
		checkAtIs(t, b, "k", time, at(5, "a"))
	}
	checkAtIs(t, b, "k", 10, gone(10))
	for time := uint64(11); time < 20; time++ {
		checkAtIs(t, b, "k", time, at(11, ""))
	}
	for time := uint64(20); time < 30; time++ {
		checkAtIs(t, b, "k", time, gone(20))
	}
	for _, time := range []uint64{30, 31, 1 << 31, 1 << 32, 1<<63 - 1, 1 << 63, greatest - 1, greatest} {
		checkAtIs(t, b, "k", time, at(30, "z"))
	}
}

// P11.1: so at the least and the greatest times.
func TestAtEnds(t *testing.T) {
	b := holding(t, has{"k", at(1, "first")}, has{"k", at(greatest, "last")})
	checkAtNone(t, b, "k", 0)
	checkAtIs(t, b, "k", 1, at(1, "first"))
	checkAtIs(t, b, "k", 1<<63, at(1, "first"))
	checkAtIs(t, b, "k", greatest-1, at(1, "first"))
	checkAtIs(t, b, "k", greatest, at(greatest, "last"))
}

// P11.1: of a key that isn't there there is none, at no time.
func TestAtNoKey(t *testing.T) {
	for _, b := range []*both{newBoth(t), holding(t, has{"k", at(5, "v")}, has{"b", gone(1)})} {
		for _, key := range []string{"", "j", "K", "kk", "k\x00", "l", "a", "c", "\xff", strings.Repeat("k", 101), strings.Repeat("k", 5000)} {
			for _, time := range []uint64{0, 1, 5, 1 << 63, greatest} {
				checkAtNone(t, b, key, time)
			}
			if last, room := b.fast.Last(key), b.fast.Room(key); last != 0 || !room {
				t.Errorf("%q: last %d, room %t", brief(key), last, room)
			}
		}
	}
}

// P11.1: each key has its own.
func TestAtManyKeys(t *testing.T) {
	b := newBoth(t)
	for i := range 250 {
		key := string([]byte{byte(i * 7), byte(i)})
		b.install(key, at(uint64(i+1), key), api.OK)
		b.install(key, gone(uint64(i+10)), api.OK)
	}
	for i := range 250 {
		key := string([]byte{byte(i * 7), byte(i)})
		checkAtNone(t, b, key, uint64(i))
		checkAtIs(t, b, key, uint64(i+1), at(uint64(i+1), key))
		checkAtIs(t, b, key, uint64(i+9), at(uint64(i+1), key))
		checkAtIs(t, b, key, uint64(i+10), gone(uint64(i+10)))
		if last := b.fast.Last(key); last != uint64(i+10) {
			t.Errorf("%q: last %d", key, last)
		}
	}
	b.checkAll()
}

// P11.1: Last is the last version's time, gone or not.
func TestLast(t *testing.T) {
	b := newBoth(t)
	for _, v := range []api.Version{at(1, "a"), gone(2), gone(5), at(6, ""), at(1<<63, "a"), gone(greatest)} {
		b.install("k", v, api.OK)
		b.install("later", at(v.Time, "a"), api.OK)
		if last := b.fast.Last("k"); last != v.Time {
			t.Errorf("it is %d, not %d", last, v.Time)
		}
		if last := b.fast.Last("kk"); last != 0 {
			t.Errorf("of no key it is %d", last)
		}
	}
}

// P11.1: a chain has room while it has fewer than MaxVersions versions.
func TestRoom(t *testing.T) {
	for _, key := range []string{"k", "", "\xff"} {
		b := newBoth(t)
		for i := range api.MaxVersions {
			if !b.fast.Room(key) {
				t.Errorf("%q: no room with %d", key, i)
			}
			b.install(key, gone(uint64(i+1)), api.OK)
		}
		if b.fast.Room(key) {
			t.Errorf("%q: room with all", key)
		}
		if !b.fast.Room(key + "k") {
			t.Errorf("%q: no room of another", key)
		}
		b.refuse(key, gone(1000), api.ErrMany)
	}
}
