package oracle_test

import (
	"math/rand/v2"
	"testing"

	"isogloss/oracle"
)

// randomCall makes one call at random, and holds what is told behind it.
func (b *both) randomCall(r *rand.Rand) {
	b.t.Helper()
	limit := greatestOf(b.slow.noted).Uint64()
	switch r.IntN(12) {
	case 0:
		b.note(randomLimit(r))
	case 1:
		b.note(limit - min(limit, uint64(r.IntN(5))))
	case 2:
		b.note(limit + min(greatest-limit, uint64(r.IntN(20))))
	case 3:
		if wanted, ok := b.fast.Want(); ok {
			b.note(wanted)
		}
	default:
		b.next()
	}
}

// P12.1, P12.2: many calls at random, held against the slow oracle behind each one.
func TestAtRandom(t *testing.T) {
	r := rand.New(rand.NewPCG(12, 2))
	for range 500 {
		b := newBoth(t, randomLimit(r))
		for range 150 {
			b.randomCall(r)
		}
	}
}

// P12.1, P12.2: so of each limit at which something changes, with times up to it.
func TestAtEdges(t *testing.T) {
	for _, limit := range limits() {
		b := newBoth(t, limit)
		for range 3 {
			b.next()
			wanted, _ := b.fast.Want()
			b.note(wanted)
			for range 102 {
				b.next()
			}
		}
		for _, other := range limits() {
			b.note(other)
			b.next()
		}
	}
}

// R7: two oracles do not hang on one another, of the same limit or of others.
func TestTwoOracles(t *testing.T) {
	one, same, other := newBoth(t, 10), newBoth(t, 10), newBoth(t, 500)
	for i := range uint64(100) {
		one.note(10 + 3*i)
		one.next()
		one.next()
		other.note(500 + i)
		other.next()
		same.checkSame()
		other.checkSame()
		one.checkSame()
	}
	checkLast(t, same.fast, 10)
	checkNoTime(t, same.fast)
	checkWants(t, same.fast, 110)
	same.note(12)
	checkTimes(t, same.fast, 11, 2)
	one.checkSame()
	other.checkSame()
}

// R7: so at random.
func TestManyOracles(t *testing.T) {
	r := rand.New(rand.NewPCG(12, 3))
	for range 30 {
		begin := randomLimit(r)
		var l []*both
		for range 6 {
			l = append(l, newBoth(t, begin))
		}
		for range 300 {
			l[r.IntN(len(l))].randomCall(r)
			for _, b := range l {
				b.checkSame()
			}
		}
	}
}

// R1: no call panics, whatever it is asked: of any limit, behind any other that was noted.
func TestWhatever(t *testing.T) {
	for _, first := range limits() {
		for _, second := range limits() {
			o := oracle.New(first)
			o.Noted(second)
			time, ok := o.Next()
			if ok != (second > first) || ok && time != first+1 || !ok && time != 0 {
				t.Errorf("of %d, and %d: %d, %t", first, second, time, ok)
			}
		}
	}
}
