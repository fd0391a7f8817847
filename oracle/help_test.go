package oracle_test

import (
	"math/big"
	"math/rand/v2"
	"testing"

	"isogloss/oracle"
)

// greatest is the greatest number.
const greatest = 1<<64 - 1

// slow is an oracle of the tests' own: what was given and what was noted are lists, and it reckons with numbers that have no greatest one.
type slow struct {
	given, noted []*big.Int // each with the limit with which it began as the first
}

// bigOf is a number as one that has no greatest.
func bigOf(n uint64) *big.Int {
	return new(big.Int).SetUint64(n)
}

// plus is a number and so many more.
func plus(n *big.Int, more int64) *big.Int {
	return new(big.Int).Add(n, big.NewInt(more))
}

// newSlow is New.
func newSlow(limit uint64) *slow {
	return &slow{[]*big.Int{bigOf(limit)}, []*big.Int{bigOf(limit)}}
}

// greatestOf is the greatest number of a list.
func greatestOf(l []*big.Int) *big.Int {
	found := l[0]
	for _, n := range l {
		if n.Cmp(found) > 0 {
			found = n
		}
	}
	return found
}

// reached tells whether the last time is the limit.
func (s *slow) reached() bool {
	return greatestOf(s.given).Cmp(greatestOf(s.noted)) == 0
}

// next is Next.
func (s *slow) next() (uint64, bool) {
	if s.reached() {
		return 0, false
	}
	s.given = append(s.given, plus(greatestOf(s.given), 1))
	return s.last(), true
}

// want is Want.
func (s *slow) want() (uint64, bool) {
	limit := greatestOf(s.noted)
	wanted := plus(limit, 100)
	if wanted.Cmp(bigOf(greatest)) > 0 {
		wanted = bigOf(greatest)
	}
	if !s.reached() || wanted.Cmp(limit) <= 0 {
		return 0, false
	}
	return wanted.Uint64(), true
}

// note is Noted.
func (s *slow) note(limit uint64) {
	s.noted = append(s.noted, bigOf(limit))
}

// last is Last.
func (s *slow) last() uint64 {
	return greatestOf(s.given).Uint64()
}

// both is an oracle and a slow one, of which the same is asked.
type both struct {
	t    *testing.T
	fast *oracle.Oracle
	slow *slow
}

// newBoth are two new ones.
func newBoth(t *testing.T, limit uint64) *both {
	t.Helper()
	b := &both{t, oracle.New(limit), newSlow(limit)}
	b.checkSame()
	return b
}

// checkSame holds what can be asked without a change: Last and Want, each twice.
func (b *both) checkSame() {
	b.t.Helper()
	for range 2 {
		if got, want := b.fast.Last(), b.slow.last(); got != want {
			b.t.Errorf("Last: %d, not %d", got, want)
		}
		limit, ok := b.fast.Want()
		if want, wantOk := b.slow.want(); limit != want || ok != wantOk {
			b.t.Errorf("Want: %d, %t, not %d, %t", limit, ok, want, wantOk)
		}
	}
}

// next holds what Next answers, and what is told behind it.
func (b *both) next() {
	b.t.Helper()
	time, ok := b.fast.Next()
	if want, wantOk := b.slow.next(); time != want || ok != wantOk {
		b.t.Errorf("Next: %d, %t, not %d, %t", time, ok, want, wantOk)
	}
	b.checkSame()
}

// note notes a limit, and holds what is told behind it.
func (b *both) note(limit uint64) {
	b.t.Helper()
	b.fast.Noted(limit)
	b.slow.note(limit)
	b.checkSame()
}

// checkTime holds that Next gives just this time, and that it is the last one then.
func checkTime(t *testing.T, o *oracle.Oracle, want uint64) {
	t.Helper()
	if time, ok := o.Next(); time != want || !ok {
		t.Errorf("Next: %d, %t, not %d", time, ok, want)
	}
	checkLast(t, o, want)
}

// checkTimes holds that Next gives so many times, from one on, each one greater.
func checkTimes(t *testing.T, o *oracle.Oracle, from uint64, many int) {
	t.Helper()
	for i := range uint64(many) {
		checkTime(t, o, from+i)
	}
}

// checkNoTime holds that Next gives none, however often it is asked, and changes nothing.
func checkNoTime(t *testing.T, o *oracle.Oracle) {
	t.Helper()
	last := o.Last()
	limit, wants := o.Want()
	for range 3 {
		if time, ok := o.Next(); time != 0 || ok {
			t.Errorf("Next: %d, %t at %d", time, ok, last)
		}
		checkLast(t, o, last)
		if now, ok := o.Want(); now != limit || ok != wants {
			t.Errorf("Want: %d, %t, not %d, %t any more", now, ok, limit, wants)
		}
	}
}

// checkLast holds what Last tells, asked twice.
func checkLast(t *testing.T, o *oracle.Oracle, want uint64) {
	t.Helper()
	for range 2 {
		if last := o.Last(); last != want {
			t.Errorf("Last: %d, not %d", last, want)
		}
	}
}

// checkWants holds that Want answers just this limit, asked twice, and that Last stays.
func checkWants(t *testing.T, o *oracle.Oracle, want uint64) {
	t.Helper()
	last := o.Last()
	for range 2 {
		if limit, ok := o.Want(); limit != want || !ok {
			t.Errorf("Want: %d, %t at %d, not %d", limit, ok, last, want)
		}
	}
	checkLast(t, o, last)
}

// checkWantsNone holds that Want answers none, asked twice, and that Last stays.
func checkWantsNone(t *testing.T, o *oracle.Oracle) {
	t.Helper()
	last := o.Last()
	for range 2 {
		if limit, ok := o.Want(); limit != 0 || ok {
			t.Errorf("Want: %d, %t at %d", limit, ok, last)
		}
	}
	checkLast(t, o, last)
}

// limits are those at which something changes: the ends, about powers of two, and about 100 below the greatest.
func limits() []uint64 {
	l := []uint64{99, 100, 101, 1000}
	for i := range 64 {
		p := uint64(1) << i
		l = append(l, p-1, p, p+1, -p)
	}
	for _, less := range []uint64{0, 1, 2, 3, 98, 99, 100, 101, 102, 200} {
		l = append(l, greatest-less)
	}
	return l
}

// randomLimit is a number at random: small, great, about the greatest, or of any length.
func randomLimit(r *rand.Rand) uint64 {
	switch r.IntN(4) {
	case 0:
		return uint64(r.IntN(300))
	case 1:
		return greatest - uint64(r.IntN(300))
	case 2:
		return 1<<63 - 150 + uint64(r.IntN(300))
	}
	return r.Uint64() >> r.IntN(64)
}
