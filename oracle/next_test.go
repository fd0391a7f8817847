package oracle_test

import (
	"testing"

	"isogloss/oracle"
)

// P12.1, P12.2: the chapter's example.
func TestExample(t *testing.T) {
	o := oracle.New(0)
	checkWants(t, o, 100)
	o.Noted(100)
	checkTime(t, o, 1)
}

// P12.1: a new oracle's last time, and limit, are what it is handed, whatever that is: it gives none.
func TestNew(t *testing.T) {
	for _, limit := range limits() {
		o := oracle.New(limit)
		checkLast(t, o, limit)
		checkNoTime(t, o)
		checkLast(t, o, limit)
	}
}

// P12.1: one below the limit there is one time more, which is the limit; behind it there is none.
func TestNextOneBelow(t *testing.T) {
	for _, limit := range limits() {
		if limit == greatest {
			continue
		}
		o := oracle.New(limit)
		o.Noted(limit + 1)
		checkLast(t, o, limit)
		checkTime(t, o, limit+1)
		checkNoTime(t, o)
	}
}

// P12.1: all times up to the limit are given, each one greater than the one ahead of it.
func TestNextUpToLimit(t *testing.T) {
	for _, from := range []uint64{0, 1, 7, 250, 1<<31 - 5, 1<<32 - 5, 1<<63 - 5, 1 << 63, greatest - 300} {
		for _, many := range []int{2, 3, 99, 100, 101, 300} {
			o := oracle.New(from)
			o.Noted(from + uint64(many))
			checkTimes(t, o, from+1, many)
			checkNoTime(t, o)
		}
	}
}

// P12.1: behind a limit that was noted anew the times go on where they were.
func TestNextBehindNotedAnew(t *testing.T) {
	o := oracle.New(5)
	checkNoTime(t, o)
	o.Noted(8)
	checkTimes(t, o, 6, 3)
	checkNoTime(t, o)
	o.Noted(9)
	checkTime(t, o, 9)
	checkNoTime(t, o)
	o.Noted(1000)
	checkTimes(t, o, 10, 991)
	checkNoTime(t, o)
}

// P12.1: so over many limits, each the one that is wanted.
func TestNextOverManyLimits(t *testing.T) {
	o := oracle.New(17)
	for i := range uint64(200) {
		limit, ok := o.Want()
		if limit != 17+100*(i+1) || !ok {
			t.Fatalf("Want: %d, %t", limit, ok)
		}
		o.Noted(limit)
		checkTimes(t, o, limit-99, 100)
		checkNoTime(t, o)
	}
}

// P12.1: Last is what Next gave last; what Want and Noted do doesn't change it.
func TestLast(t *testing.T) {
	o := oracle.New(40)
	checkLast(t, o, 40)
	o.Noted(43)
	checkLast(t, o, 40)
	for want := uint64(41); want <= 43; want++ {
		checkTime(t, o, want)
		o.Noted(want)
		checkWantsOrNot(t, o, want == 43, 143)
		checkLast(t, o, want)
	}
	checkNoTime(t, o)
	checkLast(t, o, 43)
	o.Noted(greatest)
	checkLast(t, o, 43)
}

// checkWantsOrNot holds that Want answers the limit, or none.
func checkWantsOrNot(t *testing.T, o *oracle.Oracle, wants bool, limit uint64) {
	t.Helper()
	if wants {
		checkWants(t, o, limit)
	} else {
		checkWantsNone(t, o)
	}
}

// P12.1: numbers are unsigned: times go on over 2^63 as over any other number.
func TestNextOver63(t *testing.T) {
	o := oracle.New(1<<63 - 3)
	o.Noted(1<<63 + 3)
	checkTimes(t, o, 1<<63-2, 6)
	checkNoTime(t, o)
	checkWants(t, o, 1<<63+103)
	o.Noted(1<<63 + 103)
	checkTimes(t, o, 1<<63+4, 100)
	checkNoTime(t, o)
}

// P12.1: the greatest number is given as any other; what comes behind it is told, not gone around.
func TestNextAtGreatest(t *testing.T) {
	for _, left := range []int{1, 2, 3, 99, 100, 101} {
		o := oracle.New(greatest - uint64(left))
		o.Noted(greatest)
		checkTimes(t, o, greatest-uint64(left)+1, left)
		checkNoTime(t, o)
		checkWantsNone(t, o)
		for _, limit := range limits() {
			o.Noted(limit)
			checkNoTime(t, o)
		}
		checkLast(t, o, greatest)
	}
}
