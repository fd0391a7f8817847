package mvcc_test

import (
	"slices"
	"strings"
	"testing"

	"isogloss/api"
)

// P11.1: the chapter's example.
func TestExample(t *testing.T) {
	b := holding(t, has{"k", at(5, "v")})
	if v, ok := b.fast.At("k", 4); ok || v != (api.Version{}) {
		t.Errorf("at 4: %v, %t", v, ok)
	}
	for _, time := range []uint64{5, 6, 100, greatest} {
		if v, ok := b.fast.At("k", time); !ok || v != at(5, "v") {
			t.Errorf("at %d: %v, %t", time, v, ok)
		}
	}
	b.checkAll()
}

// P11.1: a store has nothing at first.
func TestNew(t *testing.T) {
	b := newBoth(t)
	if b.fast == nil {
		t.Fatal("there is no store")
	}
	b.checkAll()
}

// P11.1: a key with some versions has one more with each.
func TestInstallOneKey(t *testing.T) {
	for _, key := range []string{"k", "", "\x00", "\xff", "\x80\x81", "ä", strings.Repeat("\xff", api.MaxKey)} {
		b := newBoth(t)
		for _, v := range []api.Version{at(1, "one"), at(2, "two"), gone(3), at(5, ""), gone(6), gone(7), at(100, "one"), at(101, "one"), at(1<<32, "\x00"), at(1<<63, "\xff"), gone(greatest - 1), at(greatest, "last")} {
			b.install(key, v, api.OK)
			b.checkAll()
		}
	}
}

// someKeys are keys in their order, of which some begin with others.
func someKeys() []string {
	return []string{"", "\x00", "\x00\x00", "\x01", "A", "a", "a\x00", "aa", "aab", "ab", "a\xff", "b", "k", "key", "key1", "key10", "key2", "z", "\x7f", "\x80", "\x80\x00", "\xc3", "\xc3\xa4", "\xff", "\xff\xff", strings.Repeat("\xff", api.MaxKey)}
}

// checkOrder holds that keys that are installed in this order stand in theirs.
func checkOrder(t *testing.T, keys []string) {
	t.Helper()
	b := newBoth(t)
	for i, key := range keys {
		b.install(key, at(uint64(100-i), key), api.OK)
		b.checkKeys()
	}
	if got := b.fast.Keys(); !slices.Equal(got, someKeys()) {
		t.Errorf("they are %q", got)
	}
	b.checkAll()
	for i, key := range keys {
		b.install(key, gone(uint64(200+i)), api.OK)
	}
	b.checkAll()
}

// P11.1: keys in rising, falling and mixed order.
func TestInstallOrders(t *testing.T) {
	checkOrder(t, someKeys())
	falling := someKeys()
	slices.Reverse(falling)
	checkOrder(t, falling)
	for _, step := range []int{3, 5, 7, 11, 19, 25} { // with 26 keys each comes once
		var mixed []string
		for i := range falling {
			mixed = append(mixed, falling[i*step%len(falling)])
		}
		checkOrder(t, mixed)
	}
}

// P11.1: versions of several keys in turns, each key's times rising by themselves.
func TestInstallInTurns(t *testing.T) {
	b := newBoth(t)
	for i := range uint64(6) {
		for j, key := range []string{"b", "", "a", "c", "ab"} {
			b.install(key, at(1+10*i+uint64(j)*3, key+strings.Repeat("x", int(i))), api.OK)
		}
		b.checkAll()
	}
}

// P11.1: a key of MaxKey bytes, and of one more.
func TestInstallLongKey(t *testing.T) {
	b := holding(t, has{"k", at(5, "v")})
	for _, part := range []string{"k", "\x00", "\xff"} {
		b.install(strings.Repeat(part, api.MaxKey-1), at(1, "v"), api.OK)
		b.install(strings.Repeat(part, api.MaxKey), at(1, "v"), api.OK)
		b.refuse(strings.Repeat(part, api.MaxKey+1), at(1, "v"), api.ErrLong)
		b.refuse(strings.Repeat(part, api.MaxKey+1), at(9, "v"), api.ErrLong)
		b.refuse(strings.Repeat(part, api.MaxKey+1), gone(1), api.ErrLong)
		b.refuse(strings.Repeat(part, 5000), at(1, "v"), api.ErrLong)
	}
	// Its bytes count, whatever letters they are.
	b.install(strings.Repeat("ä", api.MaxKey/2), at(1, "v"), api.OK)
	b.refuse(strings.Repeat("ä", api.MaxKey/2)+"a", at(1, "v"), api.ErrLong)
}

// P11.1: a value of MaxValue bytes, and of one more.
func TestInstallLongValue(t *testing.T) {
	b := newBoth(t)
	for i, part := range []string{"v", "\x00", "\xff"} {
		time := uint64(10 * i)
		b.install("k", at(time+1, strings.Repeat(part, api.MaxValue-1)), api.OK)
		b.install("k", at(time+2, strings.Repeat(part, api.MaxValue)), api.OK)
		b.refuse("k", at(time+3, strings.Repeat(part, api.MaxValue+1)), api.ErrLong)
		b.refuse("other", at(time+3, strings.Repeat(part, api.MaxValue+1)), api.ErrLong)
		b.refuse("", at(time+3, strings.Repeat(part, 70000)), api.ErrLong)
	}
	b.install(strings.Repeat("k", api.MaxKey), at(1, strings.Repeat("v", api.MaxValue)), api.OK)
	b.checkAll()
}

// P11.1: a time of 0, and what is gone with a value.
func TestInstallArg(t *testing.T) {
	b := holding(t, has{"k", at(5, "v")})
	for _, key := range []string{"k", "other", "", strings.Repeat("k", api.MaxKey)} {
		b.refuse(key, at(0, "v"), api.ErrArg)
		b.refuse(key, at(0, ""), api.ErrArg)
		b.refuse(key, gone(0), api.ErrArg)
		b.refuse(key, api.Version{Time: 0, Gone: true, Value: "v"}, api.ErrArg)
		b.refuse(key, api.Version{Time: 9, Gone: true, Value: "v"}, api.ErrArg)
		b.refuse(key, api.Version{Time: 9, Gone: true, Value: "\x00"}, api.ErrArg)
		b.refuse(key, api.Version{Time: greatest, Gone: true, Value: strings.Repeat("v", api.MaxValue)}, api.ErrArg)
	}
	b.install("k", gone(9), api.OK)
	b.install("k", at(10, ""), api.OK)
	b.checkAll()
}

// P11.1: a time just at the key's last one, below it, and one above it.
func TestInstallConflict(t *testing.T) {
	for _, last := range []uint64{1, 2, 5, 1 << 31, 1 << 32, 1<<63 - 1, 1 << 63, greatest - 1} {
		for _, v := range []api.Version{at(last, "v"), gone(last)} {
			b := holding(t, has{"k", v}, has{"later", at(greatest, "v")})
			b.refuse("k", at(last, "v"), api.ErrConflict)
			b.refuse("k", at(last, "other"), api.ErrConflict)
			b.refuse("k", gone(last), api.ErrConflict)
			if last > 1 {
				b.refuse("k", at(last-1, "v"), api.ErrConflict)
				b.refuse("k", at(1, "v"), api.ErrConflict)
			}
			b.install("k", at(last+1, "v"), api.OK)
			b.refuse("k", at(last+1, "v"), api.ErrConflict)
			b.refuse("k", gone(last), api.ErrConflict)
		}
	}
	b := holding(t, has{"k", at(5, "v")}, has{"k", at(9, "v")}, has{"k", gone(greatest)})
	for _, time := range []uint64{1, 4, 5, 6, 9, 10, 1 << 63, greatest - 1, greatest} {
		b.refuse("k", at(time, "v"), api.ErrConflict)
	}
}

// P11.1: the times of one key say nothing of another's.
func TestInstallOtherKeys(t *testing.T) {
	b := holding(t, has{"b", at(100, "v")})
	for _, key := range []string{"a", "c", "bb", "", "b\x00", "B"} {
		b.install(key, at(1, "v"), api.OK)
		b.install(key, at(100, "v"), api.OK)
	}
	b.refuse("b", at(100, "v"), api.ErrConflict)
	b.install("b", at(101, "v"), api.OK)
	b.checkAll()
}

// full are two stores of which one key has so many versions, at the even times from 2 on.
func full(t *testing.T, key string, n int) *both {
	t.Helper()
	b := newBoth(t)
	for i := range n {
		v := at(uint64(2*i+2), "v")
		if i%3 == 1 {
			v = gone(v.Time)
		}
		b.install(key, v, api.OK)
	}
	return b
}

// P11.1: the last version that fits, and one more.
func TestInstallMany(t *testing.T) {
	b := full(t, "k", api.MaxVersions-1)
	b.checkAll()
	b.install("k", at(1000, "v"), api.OK)
	b.checkAll()
	for _, v := range []api.Version{at(1001, "v"), gone(1001), at(greatest, ""), gone(greatest)} {
		b.refuse("k", v, api.ErrMany)
	}
	b.install("other", at(1, "v"), api.OK)
	b.install("", at(1, "v"), api.OK)
	b.install("kk", at(1001, "v"), api.OK)
	b.refuse("k", at(1001, "v"), api.ErrMany)
}

// P11.1, R2: what is too long is told ahead of a wrong time, and of what is gone with a value.
func TestInstallLongFirst(t *testing.T) {
	long, value := strings.Repeat("k", api.MaxKey+1), strings.Repeat("v", api.MaxValue+1)
	b := holding(t, has{"k", at(5, "v")})
	for _, time := range []uint64{0, 4, 5, 6} {
		for _, isGone := range []bool{false, true} {
			b.refuse(long, api.Version{Time: time, Gone: isGone, Value: "v"}, api.ErrLong)
			b.refuse(long, api.Version{Time: time, Gone: isGone}, api.ErrLong)
			b.refuse(long, api.Version{Time: time, Gone: isGone, Value: value}, api.ErrLong)
			b.refuse("k", api.Version{Time: time, Gone: isGone, Value: value}, api.ErrLong)
			b.refuse("other", api.Version{Time: time, Gone: isGone, Value: value}, api.ErrLong)
		}
	}
	b = full(t, "k", api.MaxVersions)
	b.refuse("k", at(1000, value), api.ErrLong)
	b.refuse("k", at(1, value), api.ErrLong)
	b.refuse("k", api.Version{Gone: true, Value: value}, api.ErrLong)
}

// P11.1, R2: a wrong time, and what is gone with a value, are told ahead of a time that isn't above, and of a full chain.
func TestInstallArgBeforeConflict(t *testing.T) {
	for _, b := range []*both{holding(t, has{"k", at(5, "v")}), full(t, "k", api.MaxVersions)} {
		b.refuse("k", at(0, "v"), api.ErrArg)
		b.refuse("k", gone(0), api.ErrArg)
		for _, time := range []uint64{0, 4, 5, 1000} {
			b.refuse("k", api.Version{Time: time, Gone: true, Value: "v"}, api.ErrArg)
		}
	}
}

// P11.1, R2: a time that isn't above is told ahead of a full chain.
func TestInstallConflictBeforeMany(t *testing.T) {
	b := full(t, "k", api.MaxVersions)
	last := b.fast.Last("k")
	for _, time := range []uint64{1, 2, 3, last - 1, last} {
		b.refuse("k", at(time, "v"), api.ErrConflict)
		b.refuse("k", gone(time), api.ErrConflict)
	}
	b.refuse("k", at(last+1, "v"), api.ErrMany)
}
