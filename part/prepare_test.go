package part_test

import (
	"strings"
	"testing"

	"isogloss/api"
)

// P13.1: some that are prepared side by side, of keys that they do not share; each is over by itself.
func TestPrepareSideBySide(t *testing.T) {
	b := newBoth(t, has{"a", at(5, "v")})
	b.prepare(txn(1), 5, puts("a", "b"), api.OK)
	b.prepare(txn(2), 7, puts("c"), api.OK)
	b.prepare(txn(3), 0, []api.Write{drop("aa"), put("", "v")}, api.OK)
	b.prepare(api.Txn{Node: 4, Life: 2, Seq: 1}, 5, puts("d", "e", "f", "g"), api.OK)
	b.checkAll()
	b.commit(txn(2), 8, api.OK)
	b.checkAll()
	b.abort(txn(1), api.OK)
	b.checkAll()
	b.commit(txn(3), 1, api.OK)
	b.checkAll()
	b.commit(api.Txn{Node: 4, Life: 2, Seq: 1}, 8, api.OK)
	b.checkAll()
}

// P13.1: where May answers an error, so does Prepare, and then nothing is prepared and no key locked: others may lock them.
func TestPrepareErrors(t *testing.T) {
	long := strings.Repeat("k", api.MaxKey+1)
	for _, c := range []struct {
		l []api.Write
		e api.Errno
	}{
		{nil, api.ErrArg},
		{manyPuts(api.MaxWrites + 1), api.ErrArg},
		{puts("a", "b", "a"), api.ErrArg},
		{[]api.Write{put("a", "v"), {Key: "b", Gone: true, Value: "v"}}, api.ErrArg},
		{[]api.Write{put("a", "v"), put(long, "v")}, api.ErrLong},
		{[]api.Write{put("a", "v"), put("b", strings.Repeat("v", api.MaxValue+1))}, api.ErrLong},
		{puts("a", "b", "locked"), api.ErrBusy},
		{puts("a", "b", "later"), api.ErrConflict},
		{puts("a", "b", "full"), api.ErrMany},
	} {
		b := held(t)
		b.refuse(txn(1), 200, c.l, c.e)
		b.commit(txn(1), 300, api.ErrNone)
		b.abort(txn(1), api.ErrNone)
		b.prepare(txn(2), 200, puts("a", "b", "key0", "key8"), api.OK)
		b.checkAll(c.l...)
	}
}

// P13.1: one that is prepared is OK, and stays as it was: its keys are locked, and its start and its writes are those of the first call.
func TestPrepareAgain(t *testing.T) {
	for _, l := range [][]api.Write{nil, puts("a"), {put("a", "other"), drop("b")}, puts("x", "y", "z"), puts("a", "a"), puts("locked"), manyPuts(9)} {
		for _, start := range []uint64{0, 199, 200, 201, 400, greatest} {
			b := held(t)
			b.prepare(txn(1), 300, []api.Write{put("a", "first"), put("b", "second"), drop("c")}, api.OK)
			b.refuse(txn(1), start, l, api.OK)
			b.refuse(txn(2), 300, puts("a"), api.ErrBusy)
			b.prepare(txn(2), 300, puts("x", "key0"), api.OK)
			b.commit(txn(1), 300, api.ErrArg)
			b.commit(txn(1), 301, api.OK)
			b.checkRead("a", 301, at(301, "first"), api.OK)
			b.checkRead("b", 301, at(301, "second"), api.OK)
			b.checkRead("c", 301, gone(301), api.OK)
			b.checkRead("x", 400, api.Version{}, api.ErrBusy)
			b.checkRead("z", 400, api.Version{}, api.ErrNone)
			b.checkAll()
		}
	}
}

// P13.1: one that is prepared no more may be so anew, with other writes and another start.
func TestPrepareAnew(t *testing.T) {
	b := newBoth(t)
	b.prepare(txn(1), 5, puts("a", "b"), api.OK)
	b.abort(txn(1), api.OK)
	b.prepare(txn(1), 2, []api.Write{put("b", "anew"), drop("c")}, api.OK)
	b.checkAll()
	b.checkRead("a", 9, api.Version{}, api.ErrNone)
	b.commit(txn(1), 3, api.OK)
	b.checkAll()
	b.refuse(txn(1), 2, puts("b"), api.ErrConflict)
	b.prepare(txn(1), 3, puts("b"), api.OK)
	b.commit(txn(1), 4, api.OK)
	b.checkAll()
}

// P13.1: transactions that differ in one number alone are two.
func TestPrepareNumbers(t *testing.T) {
	l := []api.Txn{{}, {Node: 1}, {Life: 1}, {Seq: 1}, {Node: -1}, {Life: -1}, {Seq: -1}, {Node: 1, Life: 1, Seq: 1}, {Node: 1 << 62, Life: -1 << 63, Seq: 1<<63 - 1}}
	b := newBoth(t)
	for i, txn := range l {
		b.prepare(txn, 5, puts(strings.Repeat("k", i)), api.OK)
		b.checkAll()
	}
	for i, txn := range l {
		b.prepare(txn, 5, puts("other"), api.OK) // which stays as it was
		b.refuse(api.Txn{Node: 9, Seq: i}, 5, puts(strings.Repeat("k", i)), api.ErrBusy)
		b.abort(api.Txn{Node: 9, Seq: i}, api.ErrNone)
	}
	for i, txn := range l {
		if i%2 == 0 {
			b.commit(txn, 6, api.OK)
		} else {
			b.abort(txn, api.OK)
		}
		b.checkAll()
	}
}

// P13.1, P13.2: the ends of times: a start of 0, and the greatest one, behind which there is no time.
func TestPrepareEnds(t *testing.T) {
	b := newBoth(t)
	b.prepare(txn(1), 0, puts("a"), api.OK)
	b.prepare(txn(2), greatest, puts("b"), api.OK)
	b.prepare(txn(3), greatest-1, puts("c"), api.OK)
	for _, time := range []uint64{0, 1, 1 << 63, greatest - 1, greatest} {
		b.commit(txn(2), time, api.ErrArg)
	}
	b.commit(txn(1), 0, api.ErrArg)
	b.checkAll()
	b.commit(txn(1), 1, api.OK)
	b.commit(txn(3), greatest-1, api.ErrArg)
	b.commit(txn(3), greatest, api.OK)
	b.abort(txn(2), api.OK)
	b.checkAll()
	b.refuse(txn(4), greatest-1, puts("c"), api.ErrConflict)
	b.prepare(txn(4), greatest, puts("c"), api.OK)
	b.commit(txn(4), greatest, api.ErrArg)
	b.checkAll()
}
