package part_test

import (
	"strings"
	"testing"

	"isogloss/api"
)

// P13.1, P13.2: the chapter's example.
func TestExample(t *testing.T) {
	b := newBoth(t)
	b.prepare(txn(1), 5, []api.Write{put("k", "v")}, api.OK)
	b.checkRead("k", 7, api.Version{}, api.ErrBusy)
	b.commit(txn(1), 6, api.OK)
	b.checkRead("k", 7, at(6, "v"), api.OK)
	b.checkAll()
}

// P13.1: of a new participant nothing is prepared, and it has what its store has.
func TestNew(t *testing.T) {
	newBoth(t).checkAll()
	newBoth(t, has{"a", at(1, "v")}, has{"b", gone(7)}, has{"b", at(9, "w")}).checkAll()
}

// P13.1: the version at a time, between two, and above the last; what is gone is one.
func TestRead(t *testing.T) {
	b := newBoth(t, has{"k", at(5, "a")}, has{"k", gone(10)}, has{"k", at(11, "")}, has{"k", gone(20)}, has{"k", at(30, "z")})
	for time := uint64(5); time < 10; time++ {
		b.checkRead("k", time, at(5, "a"), api.OK)
	}
	b.checkRead("k", 10, gone(10), api.OK)
	for time := uint64(11); time < 20; time++ {
		b.checkRead("k", time, at(11, ""), api.OK)
	}
	for time := uint64(20); time < 30; time++ {
		b.checkRead("k", time, gone(20), api.OK)
	}
	for _, time := range []uint64{30, 31, 1 << 31, 1 << 32, 1<<63 - 1, 1 << 63, greatest - 1, greatest} {
		b.checkRead("k", time, at(30, "z"), api.OK)
	}
	b.checkAll()
}

// P13.1: at times ahead of the first version there is none.
func TestReadAheadOfFirst(t *testing.T) {
	for _, first := range []uint64{1, 2, 5, 1 << 32, 1 << 63, greatest} {
		for _, v := range []api.Version{at(first, "v"), gone(first)} {
			b := newBoth(t, has{"k", v})
			for _, time := range []uint64{0, first / 2, first - 1} {
				b.checkRead("k", time, api.Version{}, api.ErrNone)
			}
			b.checkRead("k", first, v, api.OK)
		}
	}
}

// P13.1: of a key that isn't there there is none, whatever key it is.
func TestReadNoKey(t *testing.T) {
	b := newBoth(t, has{"k", at(5, "v")}, has{"b", gone(1)})
	b.prepare(txn(1), 9, puts("m"), api.OK)
	for _, key := range []string{"", "j", "K", "kk", "k\x00", "l", "a", "mm", "\xff", strings.Repeat("k", 101), strings.Repeat("k", 70000)} {
		for _, time := range []uint64{0, 1, 5, 9, 1 << 63, greatest} {
			b.checkRead(key, time, api.Version{}, api.ErrNone)
		}
	}
}

// P13.1: of a key that is locked it is busy, at all times: ahead of its first version, between, above its last, and above or below the start.
func TestReadLocked(t *testing.T) {
	b := newBoth(t, has{"k", at(5, "v")}, has{"k", gone(7)}, has{"", at(1, "v")})
	b.prepare(txn(1), 9, puts("k", "none", ""), api.OK)
	for _, key := range []string{"k", "none", ""} {
		for _, time := range []uint64{0, 1, 4, 5, 6, 7, 8, 9, 10, 1 << 63, greatest} {
			b.checkRead(key, time, api.Version{}, api.ErrBusy)
		}
	}
	b.checkAll()
}

// P13.1: what is written doesn't matter: a key is locked too by what makes it gone, and by an empty value.
func TestReadLockedByAny(t *testing.T) {
	for _, w := range []api.Write{put("k", "v"), put("k", ""), drop("k")} {
		b := newBoth(t, has{"k", at(5, "v")})
		b.prepare(txn(1), 5, []api.Write{w}, api.OK)
		b.checkRead("k", 9, api.Version{}, api.ErrBusy)
		b.checkAll()
	}
}

// P13.1: behind Commit, and behind Abort, a key is locked no more.
func TestReadLockedNoMore(t *testing.T) {
	b := newBoth(t, has{"k", at(5, "old")})
	b.prepare(txn(1), 5, puts("k", "new"), api.OK)
	b.abort(txn(1), api.OK)
	b.checkRead("k", 9, at(5, "old"), api.OK)
	b.checkRead("k", 4, api.Version{}, api.ErrNone)
	b.checkRead("new", 9, api.Version{}, api.ErrNone)
	b.prepare(txn(1), 5, []api.Write{put("k", "v"), drop("new")}, api.OK)
	b.checkRead("new", 9, api.Version{}, api.ErrBusy)
	b.commit(txn(1), 8, api.OK)
	b.checkRead("k", 7, at(5, "old"), api.OK)
	b.checkRead("k", 8, at(8, "v"), api.OK)
	b.checkRead("new", 7, api.Version{}, api.ErrNone)
	b.checkRead("new", 8, gone(8), api.OK)
	b.checkAll()
}

// P13.1: to read changes nothing: what may be prepared is so behind it.
func TestReadChangesNothing(t *testing.T) {
	b := newBoth(t, has{"k", at(5, "v")})
	for range 3 {
		b.fast.Read("k", 100)
		b.fast.Read("none", 100)
		b.checkAll()
	}
	b.prepare(txn(1), 5, puts("k", "none"), api.OK)
	b.fast.Read("k", 100)
	b.fast.Read("none", 100)
	b.commit(txn(1), 6, api.OK)
	b.checkAll()
}
