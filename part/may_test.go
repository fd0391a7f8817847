package part_test

import (
	"slices"
	"strconv"
	"strings"
	"testing"

	"isogloss/api"
)

// manyPuts are writes of n keys.
func manyPuts(n int) []api.Write {
	var l []api.Write
	for i := range n {
		l = append(l, put("key"+strconv.Itoa(i), "v"))
	}
	return l
}

// held are two participants where the transaction 9 locks "locked", and where the chain of "full" is full, with the last version at 200, that of "room" has room for one, and that of "later" has a version at 201.
func held(t *testing.T) *both {
	t.Helper()
	b := newBoth(t, has{"later", at(51, "v")}, has{"later", at(201, "v")})
	b.fill("full", api.MaxVersions)
	b.fill("room", api.MaxVersions-1)
	b.prepare(txn(9), 60, puts("locked"), api.OK)
	return b
}

// P13.1: no writes.
func TestMayNoWrites(t *testing.T) {
	b := held(t)
	for _, start := range []uint64{0, 1, 200, greatest} {
		b.refuse(txn(1), start, nil, api.ErrArg)
		b.refuse(txn(1), start, []api.Write{}, api.ErrArg)
	}
}

// P13.1: one write, MaxWrites, and more.
func TestMayManyWrites(t *testing.T) {
	for n := 1; n <= 20; n++ {
		b := newBoth(t)
		if n > api.MaxWrites {
			b.refuse(txn(1), 5, manyPuts(n), api.ErrArg)
			continue
		}
		b.prepare(txn(1), 5, manyPuts(n), api.OK)
		b.checkAll()
		b.commit(txn(1), 6, api.OK)
		b.checkAll()
	}
	newBoth(t).refuse(txn(1), 5, manyPuts(70000), api.ErrArg)
}

// P13.1: a key twice, at each two places, with the same and with other writes.
func TestMayTwice(t *testing.T) {
	for _, n := range []int{2, 3, api.MaxWrites} {
		for first := range n {
			for second := first + 1; second < n; second++ {
				for _, kinds := range [][2]api.Write{{put("k", "v"), put("k", "v")}, {put("k", "v"), put("k", "w")}, {put("k", ""), drop("k")}, {drop("k"), put("k", "v")}, {drop("k"), drop("k")}, {drop(""), put("", "v")}} {
					l := manyPuts(n)
					l[first], l[second] = kinds[0], kinds[1]
					newBoth(t).refuse(txn(1), 5, l, api.ErrArg)
				}
			}
		}
	}
}

// P13.1: keys that begin with one another are no key twice.
func TestMayAlike(t *testing.T) {
	b := newBoth(t)
	b.prepare(txn(1), 5, puts("", "k", "kk", "K", "k\x00", "\x00k", "ä", "a\u0308"), api.OK)
	b.checkAll()
	b.commit(txn(1), 6, api.OK)
	b.checkAll()
}

// P13.1: what is gone with a value, at each place; and gone with none.
func TestMayGone(t *testing.T) {
	for _, n := range []int{1, 2, 5, api.MaxWrites} {
		for i := range n {
			for _, value := range []string{"v", "\x00", strings.Repeat("v", api.MaxValue)} {
				l := manyPuts(n)
				l[i] = api.Write{Key: "k", Gone: true, Value: value}
				newBoth(t).refuse(txn(1), 5, l, api.ErrArg)
			}
			b := newBoth(t)
			l := manyPuts(n)
			l[i] = drop("k")
			b.prepare(txn(1), 5, l, api.OK)
			b.commit(txn(1), 6, api.OK)
			b.checkRead("k", 6, gone(6), api.OK)
			b.checkAll()
		}
	}
}

// P13.1: a key of MaxKey bytes, and of one more, at each place.
func TestMayLongKey(t *testing.T) {
	for _, letter := range []string{"k", "\x00", "\xff"} {
		for i := range api.MaxWrites {
			b := newBoth(t)
			l := manyPuts(api.MaxWrites)
			for _, n := range []int{api.MaxKey + 1, 2 * api.MaxKey, 70000} {
				l[i] = put(strings.Repeat(letter, n), "v")
				b.refuse(txn(1), 5, l, api.ErrLong)
				l[i] = drop(strings.Repeat(letter, n))
				b.refuse(txn(1), 5, l, api.ErrLong)
			}
			l[i] = put(strings.Repeat(letter, api.MaxKey), "v")
			b.prepare(txn(1), 5, l, api.OK)
			b.commit(txn(1), 6, api.OK)
			b.checkRead(l[i].Key, 6, at(6, "v"), api.OK)
			b.checkAll()
		}
	}
	// Its bytes count, whatever letters they are.
	b := newBoth(t)
	b.refuse(txn(1), 5, puts(strings.Repeat("ä", api.MaxKey/2)+"a"), api.ErrLong)
	b.prepare(txn(1), 5, puts(strings.Repeat("ä", api.MaxKey/2)), api.OK)
}

// P13.1: a value of MaxValue bytes, and of one more, at each place.
func TestMayLongValue(t *testing.T) {
	for _, letter := range []string{"v", "\x00", "\xff"} {
		for i := range api.MaxWrites {
			b := newBoth(t)
			l := manyPuts(api.MaxWrites)
			for _, n := range []int{api.MaxValue + 1, 2 * api.MaxValue, 70000} {
				l[i] = put("k", strings.Repeat(letter, n))
				b.refuse(txn(1), 5, l, api.ErrLong)
			}
			l[i] = put("k", strings.Repeat(letter, api.MaxValue))
			b.prepare(txn(1), 5, l, api.OK)
			b.commit(txn(1), 6, api.OK)
			b.checkRead("k", 6, at(6, l[i].Value), api.OK)
			b.checkAll()
		}
	}
	var l []api.Write
	for i := range api.MaxWrites {
		l = append(l, put(strings.Repeat(strconv.Itoa(i), api.MaxKey), strings.Repeat("v", api.MaxValue)))
	}
	b := newBoth(t)
	b.prepare(txn(1), 5, l, api.OK)
	b.commit(txn(1), 6, api.OK)
	b.checkAll()
}

// P13.1: a key that another one locks, at each place among the writes, and of each of the keys that it locks.
func TestMayBusy(t *testing.T) {
	locked := []string{"", "b", "k", "zz"}
	for _, key := range locked {
		for i := range api.MaxWrites {
			b := newBoth(t)
			b.prepare(txn(9), 50, puts(locked...), api.OK)
			l := manyPuts(api.MaxWrites)
			for _, w := range []api.Write{put(key, "v"), drop(key)} {
				l[i] = w
				for _, start := range []uint64{0, 49, 50, 51, greatest} {
					b.refuse(txn(1), start, l, api.ErrBusy)
				}
			}
			b.abort(txn(9), api.OK)
			b.prepare(txn(1), 0, l, api.OK)
			b.checkAll()
		}
	}
}

// P13.1: a version just at the start, one later, and one ahead of it, gone or not, at each place among the writes.
func TestMayConflict(t *testing.T) {
	for _, time := range []uint64{1, 2, 5, 1 << 31, 1 << 32, 1<<63 - 1, 1 << 63, greatest - 1, greatest} {
		for _, v := range []api.Version{at(time, "v"), gone(time)} {
			for i := range api.MaxWrites {
				l := manyPuts(api.MaxWrites)
				l[i] = put("k", "w")
				for _, start := range []uint64{0, time / 2, time - 1} {
					newBoth(t, has{"k", v}).refuse(txn(1), start, l, api.ErrConflict)
				}
				for _, start := range []uint64{time, max(time, time+1), greatest} {
					b := newBoth(t, has{"k", v})
					b.prepare(txn(1), start, l, api.OK)
					b.checkAll()
				}
			}
		}
	}
}

// P13.1: of several versions the last one counts, wherever the start is among them; another key's don't count.
func TestMayConflictOfLast(t *testing.T) {
	b := newBoth(t, has{"k", at(5, "v")}, has{"k", gone(9)}, has{"k", at(30, "v")}, has{"kk", at(1000, "v")}, has{"", at(1000, "v")})
	for start := range uint64(30) {
		b.refuse(txn(1), start, puts("k"), api.ErrConflict)
		b.refuse(txn(1), start, puts("other", "k"), api.ErrConflict)
		b.checkMay(txn(1), start, puts("other", "j", "l"), api.OK)
	}
	b.prepare(txn(1), 30, puts("k"), api.OK)
	b.prepare(txn(2), 0, puts("l"), api.OK)
	b.checkAll()
}

// P13.1: a chain of MaxVersions - 1 versions, and of MaxVersions, at each place among the writes.
func TestMayMany(t *testing.T) {
	for i := range api.MaxWrites {
		b := newBoth(t)
		b.fill("k", api.MaxVersions-1)
		l := manyPuts(api.MaxWrites)
		l[i] = put("k", "v")
		b.prepare(txn(1), 1000, l, api.OK)
		b.commit(txn(1), 1001, api.OK)
		b.checkAll()
		for _, w := range []api.Write{put("k", "v"), drop("k")} {
			l[i] = w
			for _, start := range []uint64{1001, 1002, greatest} {
				b.refuse(txn(2), start, l, api.ErrMany)
			}
		}
		l[i] = put("other", "v")
		b.prepare(txn(2), 1001, l, api.OK)
	}
}

// P13.1: of one that is prepared it is OK, whatever else is handed in.
func TestMayPrepared(t *testing.T) {
	b := held(t)
	b.prepare(txn(1), 300, puts("mine"), api.OK)
	long := strings.Repeat("k", api.MaxKey+1)
	for _, l := range [][]api.Write{nil, {}, manyPuts(9), puts("a", "a"), {{Key: "a", Gone: true, Value: "v"}}, puts(long), {put("a", strings.Repeat("v", 501))}, puts("locked"), puts("later"), puts("full"), puts("mine"), puts("other"), {drop("mine")}} {
		for _, start := range []uint64{0, 200, 300, greatest} {
			b.refuse(txn(1), start, l, api.OK) // by which nothing changes either
			b.refuse(txn(9), start, l, api.OK)
		}
	}
	b.abort(txn(1), api.OK)
	b.refuse(txn(1), 300, nil, api.ErrArg)
}

// P13.1: May changes nothing: no key is locked by it, and nothing is prepared.
func TestMayChangesNothing(t *testing.T) {
	b := held(t)
	for _, l := range [][]api.Write{puts("a"), puts("a", "b", "room"), puts("locked"), puts("full"), puts("later"), nil} {
		e := b.slow.may(txn(1), 200, l)
		b.checkMay(txn(1), 200, l, e)
		b.checkMay(txn(2), 200, l, e)
		b.checkAll(l...)
	}
}

// fault is a write by which a call is wrong, and the error of that.
type fault struct {
	name  string
	write api.Write
	e     api.Errno
}

// faults are those that one write makes, in the chapter's order; "twice" is wrong beside another write of that key.
func faults() []fault {
	return []fault{
		{"twice", put("twice", "v"), api.ErrArg},
		{"gone with a value", api.Write{Key: "gone", Gone: true, Value: "v"}, api.ErrArg},
		{"long key", put(strings.Repeat("k", api.MaxKey+1), "v"), api.ErrLong},
		{"long value", put("long", strings.Repeat("v", api.MaxValue+1)), api.ErrLong},
		{"locked", put("locked", "v"), api.ErrBusy},
		{"later", put("later", "v"), api.ErrConflict},
		{"full", put("full", "v"), api.ErrMany},
	}
}

// writesWith are some writes of which the first has one fault, and the last the other.
func writesWith(first, last fault) []api.Write {
	l := []api.Write{first.write}
	if first.name == "twice" || last.name == "twice" {
		l = append(l, put("twice", "w"))
	}
	return append(l, put("right", "v"), drop("right too"), last.write)
}

// P13.1, R2: of each two errors in one call it is the one that the chapter names first, at whichever end of the writes it is.
func TestMayOrder(t *testing.T) {
	b := held(t)
	for i, one := range faults() {
		for _, other := range faults()[i+1:] {
			b.refuse(txn(1), 200, writesWith(other, one), one.e)
			b.refuse(txn(1), 200, writesWith(one, other), one.e)
		}
		b.refuse(txn(1), 200, writesWith(fault{write: put("a", "v")}, one), one.e)
		b.refuse(txn(1), 200, writesWith(one, fault{write: put("a", "v")}), one.e)
	}
}

// P13.1, R2: more than MaxWrites writes are told ahead of all that is wrong with one of them.
func TestMayOrderMany(t *testing.T) {
	b := held(t)
	for _, f := range faults() {
		for i := range api.MaxWrites + 1 {
			l := slices.Insert(manyPuts(api.MaxWrites), i, f.write)
			b.refuse(txn(1), 200, l, api.ErrArg)
			if f.name != "twice" {
				b.refuse(txn(1), 200, l[max(0, i-3):i+1], f.e)
			}
		}
	}
}

// P13.1, R2: so of one write, with which all is wrong that can be at once.
func TestMayOrderOfOne(t *testing.T) {
	b := held(t)
	long, value := strings.Repeat("k", api.MaxKey+1), strings.Repeat("v", api.MaxValue+1)
	b.refuse(txn(1), 0, []api.Write{{Key: long, Gone: true, Value: value}}, api.ErrArg)
	b.refuse(txn(1), 0, []api.Write{{Key: "later", Gone: true, Value: "v"}}, api.ErrArg)
	b.refuse(txn(1), 0, puts("full", "full"), api.ErrArg)
	b.refuse(txn(1), 0, puts(long, long), api.ErrArg)
	b.refuse(txn(1), 0, []api.Write{put("locked", value)}, api.ErrLong)
	b.refuse(txn(1), 0, []api.Write{put("full", value)}, api.ErrLong)
	b.refuse(txn(1), 0, []api.Write{put("later", value)}, api.ErrLong)
	b.refuse(txn(1), 199, puts("full"), api.ErrConflict)
	b.refuse(txn(1), 200, puts("full"), api.ErrMany)
	b.prepare(txn(2), 200, puts("room"), api.OK)
	b.refuse(txn(1), 0, puts("room"), api.ErrBusy)
	b.commit(txn(2), 201, api.OK)
	b.refuse(txn(1), 200, puts("room"), api.ErrConflict)
	b.refuse(txn(1), 201, puts("room"), api.ErrMany)
}
