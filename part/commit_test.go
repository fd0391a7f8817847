package part_test

import (
	"testing"

	"isogloss/api"
	"isogloss/mvcc"
	"isogloss/part"
)

// P13.2: of one that isn't prepared there is none, at any time: to commit, or to abort.
func TestNotPrepared(t *testing.T) {
	b := newBoth(t, has{"k", at(5, "v")})
	b.prepare(txn(1), 5, puts("k"), api.OK)
	for _, other := range []api.Txn{{}, txn(0), txn(2), txn(-1), {Node: 2, Life: 1, Seq: 1}, {Node: 2, Life: 2, Seq: 1}, {Node: 1, Life: 1, Seq: 1}} {
		for _, time := range []uint64{0, 4, 5, 6, greatest} {
			b.commit(other, time, api.ErrNone)
		}
		b.abort(other, api.ErrNone)
		b.checkAll()
	}
}

// P13.2: a time below the start, and at it, is an error, behind which it is prepared as before; one above it is none.
func TestCommitTimes(t *testing.T) {
	for _, start := range []uint64{0, 1, 5, 1 << 31, 1 << 32, 1<<63 - 1, 1 << 63, greatest - 1} {
		for _, time := range []uint64{start + 1, start + (greatest-start)/2 + 1, greatest} {
			b := newBoth(t)
			b.prepare(txn(1), start, []api.Write{put("k", "v"), drop("m")}, api.OK)
			for _, early := range []uint64{0, start / 2, start - min(start, 1), start} {
				b.commit(txn(1), early, api.ErrArg)
				b.checkAll()
			}
			b.refuse(txn(2), start, puts("m"), api.ErrBusy)
			b.commit(txn(1), time, api.OK)
			b.checkRead("k", time-1, api.Version{}, api.ErrNone)
			b.checkRead("k", time, at(time, "v"), api.OK)
			b.checkRead("m", time, gone(time), api.OK)
			b.checkAll()
		}
	}
}

// P13.2: behind an error of its time it may be aborted, too.
func TestAbortBehindEarlyCommit(t *testing.T) {
	b := newBoth(t, has{"k", at(5, "v")})
	b.prepare(txn(1), 5, puts("k", "m"), api.OK)
	b.commit(txn(1), 5, api.ErrArg)
	b.abort(txn(1), api.OK)
	b.commit(txn(1), 5, api.ErrNone)
	b.checkAll()
}

// P13.2: each of the writes, gone or not, is there at the time, and not ahead of it; what was there ahead of it stays.
func TestCommitWrites(t *testing.T) {
	b := newBoth(t, has{"a", at(3, "old a")}, has{"a", gone(5)}, has{"b", at(1, "old b")}, has{"c", gone(10)}, has{"other", at(2, "other")})
	b.prepare(txn(1), 10, []api.Write{put("c", "new c"), drop("b"), put("new", ""), put("a", "new a"), drop("new too")}, api.OK)
	b.commit(txn(1), 20, api.OK)
	b.checkAll()
	for _, time := range []uint64{10, 19} {
		b.checkRead("a", time, gone(5), api.OK)
		b.checkRead("b", time, at(1, "old b"), api.OK)
		b.checkRead("c", time, gone(10), api.OK)
		b.checkRead("new", time, api.Version{}, api.ErrNone)
		b.checkRead("new too", time, api.Version{}, api.ErrNone)
	}
	for _, time := range []uint64{20, 21, greatest} {
		b.checkRead("a", time, at(20, "new a"), api.OK)
		b.checkRead("b", time, gone(20), api.OK)
		b.checkRead("c", time, at(20, "new c"), api.OK)
		b.checkRead("new", time, at(20, ""), api.OK)
		b.checkRead("new too", time, gone(20), api.OK)
	}
	b.checkRead("a", 4, at(3, "old a"), api.OK)
	b.checkRead("other", 30, at(2, "other"), api.OK)
}

// P13.2: behind Commit the keys aren't locked and it isn't prepared; a second time there is none.
func TestCommitTwice(t *testing.T) {
	b := newBoth(t)
	b.prepare(txn(1), 5, puts("a", "b"), api.OK)
	b.prepare(txn(2), 5, puts("c"), api.OK)
	b.commit(txn(1), 6, api.OK)
	for _, time := range []uint64{5, 6, 7, greatest} {
		b.commit(txn(1), time, api.ErrNone)
		b.abort(txn(1), api.ErrNone)
		b.checkAll()
	}
	b.prepare(txn(3), 6, puts("b", "a"), api.OK)
	b.refuse(txn(4), 6, puts("c"), api.ErrBusy)
	b.commit(txn(3), 9, api.OK)
	b.checkAll()
}

// P13.2: many, one behind the other, write a key till its chain is full.
func TestCommitManyTimes(t *testing.T) {
	b := newBoth(t)
	for i := range api.MaxVersions {
		time := uint64(3 * i)
		b.prepare(txn(i), time, []api.Write{put("k", "v"), drop("m")}, api.OK)
		b.commit(txn(i), time+3, api.OK)
	}
	b.checkAll()
	b.refuse(txn(1000), 3*api.MaxVersions, puts("k"), api.ErrMany)
	b.refuse(txn(1000), 3*api.MaxVersions-1, puts("m"), api.ErrConflict)
}

// P13.2: Abort installs nothing; behind it the keys aren't locked, and it isn't prepared; a second time there is none.
func TestAbort(t *testing.T) {
	b := newBoth(t, has{"a", at(3, "old")})
	b.prepare(txn(1), 5, []api.Write{put("a", "new"), drop("b"), put("c", "new")}, api.OK)
	b.abort(txn(1), api.OK)
	b.checkAll(puts("a", "b", "c")...)
	b.abort(txn(1), api.ErrNone)
	b.commit(txn(1), 6, api.ErrNone)
	b.checkAll()
	b.prepare(txn(2), 3, puts("c", "b", "a"), api.OK)
	b.checkAll()
}

// P13.2: the others stay prepared, with their keys locked, whichever of them is aborted.
func TestAbortOfSome(t *testing.T) {
	for i := range 5 {
		b := newBoth(t)
		for j := range 5 {
			b.prepare(txn(j), uint64(j), manyPuts(10)[2*j:2*j+2], api.OK)
		}
		b.abort(txn(i), api.OK)
		b.checkAll(manyPuts(10)...)
		for j := range 5 {
			if j != i {
				b.refuse(txn(9), 9, manyPuts(10)[2*j+1:2*j+2], api.ErrBusy)
				b.commit(txn(j), uint64(j)+1, api.OK)
			}
		}
		b.checkAll(manyPuts(10)...)
	}
}

// P13.2: the store is the one that was handed in: what is installed there is read, and what is committed is read there.
func TestStore(t *testing.T) {
	s := mvcc.New()
	s.Install("k", at(5, "ahead"))
	p := part.New(s)
	if p.Store() != s {
		t.Fatal("it is another one")
	}
	if v, e := p.Read("k", 9); v != at(5, "ahead") || e != api.OK {
		t.Errorf("%v, error %d", v, e)
	}
	s.Install("m", at(7, "behind"))
	if v, e := p.Read("m", 9); v != at(7, "behind") || e != api.OK {
		t.Errorf("%v, error %d", v, e)
	}
	if e := p.May(txn(1), 6, puts("m")); e != api.ErrConflict {
		t.Errorf("error %d", e)
	}
	p.Prepare(txn(1), 8, []api.Write{put("m", "new"), drop("k")})
	if v, ok := s.At("m", 100); v != at(7, "behind") || !ok {
		t.Errorf("while it is prepared: %v, %t", v, ok)
	}
	p.Commit(txn(1), 10)
	if v, ok := s.At("m", 10); v != at(10, "new") || !ok {
		t.Errorf("%v, %t", v, ok)
	}
	if v, ok := s.At("k", 10); v != gone(10) || !ok {
		t.Errorf("%v, %t", v, ok)
	}
	if p.Store() != s {
		t.Error("it became another one")
	}
}
