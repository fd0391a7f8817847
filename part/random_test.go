package part_test

import (
	"math/rand/v2"
	"slices"
	"strconv"
	"strings"
	"testing"

	"isogloss/api"
	"isogloss/mvcc"
	"isogloss/part"
)

// randomKey is a key, most of them of few.
func randomKey(r *rand.Rand) string {
	if r.IntN(100) == 0 {
		return strings.Repeat("k", api.MaxKey+r.IntN(2))
	}
	l := []string{"", "\x00", "a", "aa", "ab", "b", "k", "kk", "z", "\xff", "\xff\xff", "full", "nearly"}
	return l[r.IntN(len(l))]
}

// randomWrites are some writes, most of them right.
func randomWrites(r *rand.Rand) []api.Write {
	var l []api.Write
	n := 1 + r.IntN(3)
	if r.IntN(20) == 0 {
		n = r.IntN(11)
	}
	for range n {
		w := put(randomKey(r), strings.Repeat("v", r.IntN(4)))
		again := slices.ContainsFunc(l, func(ahead api.Write) bool { return ahead.Key == w.Key })
		switch k := r.IntN(200); {
		case again && k > 20:
			w.Key += strconv.Itoa(k)
		case k == 0:
			w.Gone, w.Value = true, "v"
		case k < 4:
			w.Value = strings.Repeat("v", api.MaxValue+r.IntN(2))
		case k < 60:
			w.Gone, w.Value = true, ""
		}
		l = append(l, w)
	}
	return l
}

// randomTxn is a transaction, of few.
func randomTxn(r *rand.Rand) api.Txn {
	return api.Txn{Node: r.IntN(2), Life: r.IntN(2), Seq: r.IntN(4)}
}

// randomTime is a time about another one, or one of the ends.
func randomTime(r *rand.Rand, about uint64) uint64 {
	switch r.IntN(300) {
	case 0:
		return 0
	case 1:
		return greatest - uint64(r.IntN(2))
	}
	return about - min(about, 6) + uint64(r.IntN(13))
}

// randomCall makes a call at random, and tells the error.
func (b *both) randomCall(r *rand.Rand, about uint64) api.Errno {
	b.t.Helper()
	one, time := randomTxn(r), randomTime(r, about)
	switch r.IntN(8) {
	case 0:
		want := b.slow.abort(one)
		if e := b.fast.Abort(one); e != want {
			b.t.Errorf("Abort(%v): error %d, not %d", one, e, want)
		}
		return want
	case 1, 2:
		want := b.slow.commit(one, time)
		if e := b.fast.Commit(one, time); e != want {
			b.t.Errorf("Commit(%v, %d): error %d, not %d", one, time, e, want)
		}
		return want
	case 3:
		key := randomKey(r)
		last, _ := b.slow.at(key, greatest)
		if b.slow.writers(key) == 0 && last.Time < time && len(b.slow.chains[key]) < 200 && len(key) <= 100 {
			b.install(key, gone(time))
		}
		want, wantE := b.slow.read(key, time)
		b.checkRead(key, time, want, wantE)
		return wantE
	}
	l := randomWrites(r)
	want := b.slow.may(one, time, l)
	b.prepare(one, time, l, want)
	return want
}

// P13.1, P13.2: many participants and calls at random, held against the slow participant.
func TestAtRandom(t *testing.T) {
	r := rand.New(rand.NewPCG(13, 2))
	counts := map[api.Errno]int{}
	for range 200 {
		b := newBoth(t)
		b.fill("full", api.MaxVersions)
		b.fill("nearly", api.MaxVersions-2)
		about := uint64(190 + r.IntN(20))
		if r.IntN(20) == 0 {
			about = greatest - 30
		}
		for i := range 150 {
			counts[b.randomCall(r, about+uint64(i/10))]++
			b.checkTxns()
			key, time := randomKey(r), randomTime(r, about)
			want, wantE := b.slow.read(key, time)
			b.checkRead(key, time, want, wantE)
		}
		b.checkAll()
	}
	for _, e := range []api.Errno{api.OK, api.ErrArg, api.ErrLong, api.ErrBusy, api.ErrConflict, api.ErrMany, api.ErrNone} {
		if counts[e] < 100 {
			t.Errorf("%v: too few of error %d", counts, e)
		}
	}
}

// P13.1, P13.2: very many that are prepared at one time.
func TestVeryMany(t *testing.T) {
	const many = 100000
	p := part.New(mvcc.New())
	for i := range many {
		if e := p.Prepare(txn(many-i), 5, puts("a"+strconv.Itoa(i), "b"+strconv.Itoa(i))); e != api.OK {
			t.Fatalf("%d: error %d", i, e)
		}
	}
	l := p.All()
	if len(l) != many || !slices.IsSortedFunc(l, func(a, b api.Txn) int { return a.Seq - b.Seq }) {
		t.Errorf("%d are prepared", len(l))
	}
	for i := range many {
		if _, e := p.Read("b"+strconv.Itoa(i), 9); e != api.ErrBusy {
			t.Fatalf("%d: error %d", i, e)
		}
		if e := p.Abort(txn(many - i)); e != api.OK {
			t.Fatalf("%d: error %d", i, e)
		}
	}
	if l := p.All(); len(l) > 0 || len(p.Store().Keys()) > 0 {
		t.Errorf("%d are prepared", len(l))
	}
}

// R7: two participants do not hang on one another: what one has prepared the other hasn't.
func TestTwoParticipants(t *testing.T) {
	one, other := newBoth(t, has{"k", at(5, "one")}), newBoth(t, has{"k", at(9, "other")})
	one.prepare(txn(1), 9, puts("k", "m"), api.OK)
	other.checkAll(puts("k", "m")...)
	other.prepare(txn(1), 20, puts("k"), api.OK)
	other.prepare(txn(2), 20, puts("m"), api.OK)
	one.checkAll()
	one.commit(txn(2), 30, api.ErrNone)
	one.abort(txn(1), api.OK)
	other.checkAll()
	other.commit(txn(1), 21, api.OK)
	one.checkAll()
	other.checkAll()
}

// R7: so of many at random.
func TestManyParticipants(t *testing.T) {
	r := rand.New(rand.NewPCG(13, 3))
	for range 10 {
		var l []*both
		for range 6 {
			l = append(l, newBoth(t, has{"k", at(5, "v")}))
		}
		for range 150 {
			l[r.IntN(len(l))].randomCall(r, 10)
			for _, b := range l {
				b.checkTxns()
			}
		}
		for _, b := range l {
			b.checkAll()
		}
	}
}

// R7: of two that were handed one store each has what is prepared for itself, and both read what is in the store.
func TestOneStore(t *testing.T) {
	s := mvcc.New()
	one, other := part.New(s), part.New(s)
	if e := one.Prepare(txn(1), 5, puts("k")); e != api.OK {
		t.Errorf("error %d", e)
	}
	if _, e := other.Read("k", 9); e != api.ErrNone || other.Prepared(txn(1)) || len(other.All()) > 0 {
		t.Errorf("error %d, and %v are prepared", e, other.All())
	}
	if e := other.Commit(txn(1), 6); e != api.ErrNone {
		t.Errorf("error %d", e)
	}
	if e := one.Commit(txn(1), 6); e != api.OK {
		t.Errorf("error %d", e)
	}
	if v, e := other.Read("k", 9); v != at(6, puts("k")[0].Value) || e != api.OK {
		t.Errorf("%v, error %d", v, e)
	}
	if e := other.May(txn(2), 5, puts("k")); e != api.ErrConflict {
		t.Errorf("error %d", e)
	}
}

// R1: no call panics, whatever it is asked; also of a participant that no New made, which has a store of its own.
func TestWhatever(t *testing.T) {
	long := strings.Repeat("k", 100000)
	for _, p := range []*part.Part{part.New(mvcc.New()), {}} {
		for _, one := range []api.Txn{{}, {Node: -1 << 63, Life: 1<<63 - 1, Seq: -1}} {
			for _, time := range []uint64{0, 1, greatest} {
				for _, l := range [][]api.Write{nil, {{}}, {{Key: long, Gone: true, Value: long}}, puts(long, long), manyPuts(5000)} {
					p.Read(long, time)
					p.Abort(one)
					p.Commit(one, time)
					p.May(one, time, l)
					p.Prepare(one, time, l)
					p.Commit(one, time)
				}
			}
		}
		p.Abort(api.Txn{})
		if e := p.Prepare(txn(1), 5, puts("k")); e != api.OK || !slices.Equal(p.All(), []api.Txn{txn(1)}) {
			t.Errorf("error %d, and %v are prepared", e, p.All())
		}
		if e := p.Commit(txn(1), 6); e != api.OK || p.Store().Last("k") != 6 {
			t.Errorf("error %d", e)
		}
	}
	if (&part.Part{}).Store() == nil {
		t.Error("there is no store")
	}
	fresh := &part.Part{}
	if e := fresh.Commit(txn(1), 1); e != api.ErrNone || fresh.Prepared(txn(1)) || len(fresh.All()) > 0 {
		t.Errorf("error %d", e)
	}
	if _, e := (&part.Part{}).Read("k", 9); e != api.ErrNone {
		t.Errorf("error %d", e)
	}
}
