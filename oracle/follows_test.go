package oracle_test

import (
	"math/rand/v2"
	"testing"

	"isogloss/oracle"
)

// safe is what lies somewhere safe over the lives of an oracle: the greatest limit that was noted; and the greatest time of all lives.
type safe struct {
	t        *testing.T
	limit    uint64
	greatest uint64
	given    int
}

// note notes a limit: somewhere safe first, and then to the oracle.
func (s *safe) note(o *oracle.Oracle, limit uint64) {
	s.limit = max(s.limit, limit)
	o.Noted(limit)
}

// give asks for a time, and holds that it is above all ahead of it (so that none comes twice), and not above what is safe.
func (s *safe) give(o *oracle.Oracle) bool {
	s.t.Helper()
	time, ok := o.Next()
	if !ok {
		return false
	}
	if time <= s.greatest || time > s.limit {
		s.t.Errorf("it gave %d, behind %d, up to %d", time, s.greatest, s.limit)
	}
	s.greatest = time
	s.given++
	return true
}

// serve gives a time as who keeps an oracle does: first a limit is noted, if one is wanted.
func (s *safe) serve(o *oracle.Oracle) bool {
	s.t.Helper()
	if limit, ok := o.Want(); ok {
		s.note(o, limit)
	}
	return s.give(o)
}

// P12.3: over some lives no time comes twice, and each is above all ahead of it, also where a life ends with times left, or gave none.
func TestLives(t *testing.T) {
	for _, begin := range []uint64{0, 1, 99, 1 << 32, 1<<63 - 250, 1 << 63} {
		s := &safe{t: t, limit: begin, greatest: begin}
		many := 0
		for _, calls := range []int{1, 0, 1, 2, 99, 100, 101, 0, 0, 250, 3} {
			o := oracle.New(s.limit)
			checkLast(t, o, s.limit)
			for range calls {
				if !s.serve(o) {
					t.Errorf("no time behind %d", s.greatest)
				}
			}
			many += calls
		}
		if s.given != many {
			t.Errorf("%d times of %d", s.given, many)
		}
	}
}

// P12.3: what a life left below its limit is never given.
func TestLifeLeavesTimes(t *testing.T) {
	o := oracle.New(0)
	o.Noted(100)
	checkTimes(t, o, 1, 3)
	o = oracle.New(100)
	checkNoTime(t, o)
	checkWants(t, o, 200)
	o.Noted(200)
	o = oracle.New(200) // it gave none
	o.Noted(300)
	checkTimes(t, o, 201, 100)
	o = oracle.New(300) // it gave all
	checkNoTime(t, o)
	o.Noted(301)
	checkTime(t, o, 301)
}

// P12.3: a limit that is noted somewhere safe, but not to the oracle, as one that goes down between both: the next life begins behind it.
func TestLifeEndsAheadOfNoted(t *testing.T) {
	s := &safe{t: t}
	for range 50 {
		o := oracle.New(s.limit)
		for range 130 {
			if !s.serve(o) {
				t.Errorf("no time behind %d", s.greatest)
			}
		}
		for s.give(o) {
		}
		limit, ok := o.Want()
		if !ok || limit != s.limit+100 {
			t.Errorf("it wants %d, %t at %d", limit, ok, s.limit)
		}
		s.limit = limit
		checkNoTime(t, o)
	}
}

// P12.3: so up to the greatest number, behind which no life gives any.
func TestLivesUpToGreatest(t *testing.T) {
	for less := uint64(1); less <= 320; less += 7 {
		s := &safe{t: t, limit: greatest - less, greatest: greatest - less}
		for range 10 {
			o := oracle.New(s.limit)
			for range 60 {
				s.serve(o)
			}
		}
		if s.limit != greatest {
			t.Errorf("of %d less: the limit is %d", less, s.limit)
		}
		last := oracle.New(s.limit)
		checkNoTime(t, last)
		checkWantsNone(t, last)
		checkLast(t, last, greatest)
	}
}

// P12.3: lives at random: limits that are wanted and that aren't, times that are asked for ahead of it and behind it.
func TestLivesRandomly(t *testing.T) {
	r := rand.New(rand.NewPCG(12, 1))
	given := 0
	for range 200 {
		begin := randomLimit(r)
		s := &safe{t: t, limit: begin, greatest: begin}
		for range 20 {
			o := oracle.New(s.limit)
			for range r.IntN(60) {
				switch r.IntN(8) {
				case 0:
					s.note(o, s.limit-min(s.limit, uint64(r.IntN(50))))
				case 1:
					s.note(o, s.limit+min(greatest-s.limit, uint64(r.IntN(50))))
				case 2:
					s.give(o)
				default:
					s.serve(o)
				}
			}
		}
		given += s.given
	}
	if given < 50000 {
		t.Errorf("only %d times", given)
	}
}
