package part_test

import (
	"math/rand/v2"
	"slices"
	"testing"

	"isogloss/api"
	"isogloss/mvcc"
	"isogloss/part"
)

// life is what became of one that was prepared.
type life struct {
	txn         api.Txn
	start, time uint64 // the time is 0, if it didn't commit
	keys        []string
}

// share tells whether two write one key.
func share(a, b life) bool {
	return slices.ContainsFunc(a.keys, func(key string) bool { return slices.Contains(b.keys, key) })
}

// beganAhead tells whether each of two that committed began ahead of the other's time.
func beganAhead(a, b life) bool {
	return a.start < b.time && b.start < a.time
}

// lives are a participant, and those that are prepared, and that have committed.
type lives struct {
	t                   *testing.T
	p                   *part.Part
	prepared, committed []life
}

// begin prepares one with some keys; if it is, no other one that is prepared has one of them.
func (l *lives) begin(r *rand.Rand, txn api.Txn, start uint64) bool {
	l.t.Helper()
	one := life{txn: txn, start: start}
	var writes []api.Write
	for _, i := range r.Perm(12)[:1+r.IntN(3)] {
		key := string(rune('a' + i))
		one.keys = append(one.keys, key)
		writes = append(writes, api.Write{Key: key, Gone: r.IntN(4) == 0})
	}
	if l.p.Prepare(txn, start, writes) != api.OK {
		return false
	}
	for _, other := range l.prepared {
		if share(one, other) {
			l.t.Errorf("%v and %v are prepared", one, other)
		}
	}
	l.prepared = append(l.prepared, one)
	return true
}

// end commits one, or aborts it; if it commits it shares no key with one that committed, of which each began ahead of the other's time.
func (l *lives) end(r *rand.Rand) bool {
	l.t.Helper()
	i := r.IntN(len(l.prepared))
	one := l.prepared[i]
	if r.IntN(5) == 0 {
		l.p.Abort(one.txn)
		l.prepared = slices.Delete(l.prepared, i, i+1)
		return false
	}
	one.time = one.start + uint64(r.IntN(30))
	if e := l.p.Commit(one.txn, one.time); (e == api.OK) != (one.time > one.start) {
		l.t.Errorf("%v: error %d", one, e)
	}
	if one.time <= one.start {
		return false
	}
	for _, other := range l.committed {
		if beganAhead(one, other) && share(one, other) {
			l.t.Errorf("%v and %v have committed", one, other)
		}
	}
	l.committed = append(l.committed, one)
	l.prepared = slices.Delete(l.prepared, i, i+1)
	return true
}

// P13.3: no two that are prepared lock one key, and no two that commit, of which each began ahead of the other's time, write one.
func TestFollows(t *testing.T) {
	r := rand.New(rand.NewPCG(13, 1))
	refused, beside := 0, 0
	for range 150 {
		l := &lives{t: t, p: part.New(mvcc.New())}
		for i := range 300 {
			if r.IntN(2) == 0 && !l.begin(r, txn(i), uint64(i/4+r.IntN(20))) {
				refused++
			}
			if len(l.prepared) > 0 && r.IntN(2) == 0 && l.end(r) {
				last := l.committed[len(l.committed)-1]
				if slices.ContainsFunc(l.committed[:len(l.committed)-1], func(other life) bool { return beganAhead(last, other) }) {
					beside++
				}
			}
		}
	}
	if refused < 1000 || beside < 1000 {
		t.Errorf("only %d were refused, and %d committed beside others", refused, beside)
	}
}

// P13.3: two that began at one time, and write one key: while the first is prepared the second is told that it is busy, and when it has committed that it was first; when it was aborted the second one may.
func TestFirstWins(t *testing.T) {
	b := newBoth(t, has{"k", at(5, "v")})
	b.prepare(txn(1), 5, puts("k"), api.OK)
	b.refuse(txn(2), 5, puts("k"), api.ErrBusy)
	b.commit(txn(1), 6, api.OK)
	b.refuse(txn(2), 5, puts("k"), api.ErrConflict)
	b.prepare(txn(3), 6, puts("k"), api.OK)
	b.abort(txn(3), api.OK)
	b.prepare(txn(4), 6, puts("k"), api.OK)
	b.commit(txn(4), 7, api.OK)
	b.checkAll()
}
