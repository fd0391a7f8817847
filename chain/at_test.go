package chain_test

import (
	"math/rand/v2"
	"testing"
	"unsafe"

	"isogloss/api"
	"isogloss/chain"
)

// P9.2: of no versions there is none, at any time.
func TestAtOfNone(t *testing.T) {
	for _, time := range []uint64{0, 1, 5, 1 << 63, greatest} {
		checkAtIs(t, nil, time, api.Version{}, false)
		checkAtIs(t, []api.Version{}, time, api.Version{}, false)
		checkAtIs(t, rising(3, 1)[:0], time, api.Version{}, false)
	}
}

// P9.2: ahead of the first time, at it, between two, at the last one, behind it.
func TestAtOfSome(t *testing.T) {
	l := []api.Version{at(5, "a"), at(10, "b"), at(11, ""), at(1<<40, "c")}
	for _, time := range []uint64{0, 1, 4} {
		checkAtIs(t, l, time, api.Version{}, false)
	}
	for _, time := range []uint64{5, 6, 9} {
		checkAtIs(t, l, time, at(5, "a"), true)
	}
	checkAtIs(t, l, 10, at(10, "b"), true)
	for _, time := range []uint64{11, 12, 1 << 32, 1<<40 - 1} {
		checkAtIs(t, l, time, at(11, ""), true)
	}
	for _, time := range []uint64{1 << 40, 1<<40 + 1, 1<<63 - 1, 1 << 63, greatest} {
		checkAtIs(t, l, time, at(1<<40, "c"), true)
	}
}

// P9.2: what is gone is told as it is, not what was there ahead of it.
func TestAtGone(t *testing.T) {
	l := []api.Version{gone(2), at(4, "a"), gone(6), gone(7), at(9, "b"), gone(greatest)}
	want := []api.Version{2: gone(2), gone(2), at(4, "a"), at(4, "a"), gone(6), gone(7), gone(7), at(9, "b"), at(9, "b")}
	checkAtIs(t, l, 0, api.Version{}, false)
	checkAtIs(t, l, 1, api.Version{}, false)
	for time := 2; time < len(want); time++ {
		checkAtIs(t, l, uint64(time), want[time], true)
	}
	checkAtIs(t, l, greatest-1, at(9, "b"), true)
	checkAtIs(t, l, greatest, gone(greatest), true)
}

// P9.2: chains of every length from 1 to MaxVersions, ahead of each of their times, at it, and behind it.
func TestAtOfEachLength(t *testing.T) {
	for n := 1; n <= api.MaxVersions; n++ {
		for _, step := range []uint64{1, 3, 1 << 56} {
			l := rising(n, step)
			for i, v := range l {
				checkAtIs(t, l, v.Time, v, true)
				checkAtIs(t, l, v.Time+step-1, v, true)
				if i > 0 {
					checkAtIs(t, l, v.Time-1, l[i-1], true)
				}
			}
			checkAtIs(t, l, 0, api.Version{}, false)
			checkAtIs(t, l, step-1, api.Version{}, false)
			checkAtIs(t, l, greatest, l[n-1], true)
		}
	}
}

// P9.2: of chains at random what the slow At tells, at their times, beside them, and at others.
func TestAtAtRandom(t *testing.T) {
	r := rand.New(rand.NewPCG(9, 4))
	for range 3000 {
		l := randomChain(r, 20)
		times := []uint64{0, 1, greatest, r.Uint64(), r.Uint64() >> r.IntN(64)}
		for _, v := range l {
			times = append(times, v.Time-1, v.Time, v.Time+1)
		}
		for _, time := range times {
			want, ok := slowAt(l, time)
			checkAtIs(t, l, time, want, ok)
		}
	}
}

// P9.2, R1: of what is no chain At ends, too, and doesn't panic.
func TestAtOfNoChain(t *testing.T) {
	r := rand.New(rand.NewPCG(9, 5))
	for range 3000 {
		l := make([]api.Version, r.IntN(300))
		for i := range l {
			l[i] = at(r.Uint64N(50), "x")
		}
		time := r.Uint64N(52)
		if v, ok := chain.At(l, time); ok && v.Time > time || !ok && v != (api.Version{}) {
			t.Errorf("At(%v, of %d, %d): %v, %v", briefly(l), len(l), time, v, ok)
		}
	}
}

// P9.2, R5: what is answered is new memory.
func TestAtIsNew(t *testing.T) {
	l := chainOf("first", "second")
	v, ok := chain.At(l, 2)
	if !ok || v.Value != "second" || unsafe.StringData(v.Value) == unsafe.StringData(l[1].Value) {
		t.Errorf("%v, %v shares its value's memory", v, ok)
	}
}
