package oracle_test

import (
	"testing"

	"isogloss/oracle"
)

// P12.2: at the limit 100 more are wanted.
func TestWantAtLimit(t *testing.T) {
	for _, limit := range []uint64{0, 1, 2, 99, 100, 101, 1<<31 - 1, 1<<32 - 50, 1<<63 - 101, 1<<63 - 100, 1<<63 - 1, 1 << 63, 1<<63 + 1, greatest - 1000} {
		o := oracle.New(limit)
		checkWants(t, o, limit+100)
		o.Noted(limit + 3)
		checkTimes(t, o, limit+1, 3)
		checkWants(t, o, limit+103)
	}
}

// P12.2: away from the limit none is wanted, be it by one, or by many.
func TestWantAwayFromLimit(t *testing.T) {
	for _, limit := range limits() {
		for _, more := range []uint64{1, 2, 99, 100, 101, 1 << 40, greatest - limit} {
			if more == 0 || more > greatest-limit {
				continue
			}
			o := oracle.New(limit)
			o.Noted(limit + more)
			checkWantsNone(t, o)
		}
	}
	o := oracle.New(0)
	o.Noted(100)
	for time := range uint64(100) {
		checkWantsNone(t, o)
		checkTime(t, o, time+1)
	}
	checkWants(t, o, 200)
}

// P12.2: where 100 more are more than the greatest number, that is wanted; where they are just it, or less, they are.
func TestWantCut(t *testing.T) {
	for less := uint64(1); less <= 250; less++ {
		o := oracle.New(greatest - less)
		want := uint64(greatest)
		if less >= 100 {
			want -= less - 100
		}
		checkWants(t, o, want)
		o.Noted(want)
		checkWantsNone(t, o)
		checkTimes(t, o, greatest-less+1, int(min(less, 100)))
	}
}

// P12.2: at the greatest number there is no greater one to want.
func TestWantAtGreatest(t *testing.T) {
	o := oracle.New(greatest)
	checkWantsNone(t, o)
	checkNoTime(t, o)
	checkWantsNone(t, o)
	reached := oracle.New(greatest - 1)
	checkWants(t, reached, greatest)
	reached.Noted(greatest)
	checkWantsNone(t, reached)
	checkTime(t, reached, greatest)
	checkWantsNone(t, reached)
	checkNoTime(t, reached)
}

// P12.2: what is wanted isn't noted by that: it is wanted anew, and no time comes.
func TestWantChangesNothing(t *testing.T) {
	for _, limit := range limits() {
		o := oracle.New(limit)
		first, ok := o.Want()
		for range 150 {
			if again, againOk := o.Want(); again != first || againOk != ok {
				t.Fatalf("of %d: %d, %t, and then %d, %t", limit, first, ok, again, againOk)
			}
		}
		checkNoTime(t, o)
		checkLast(t, o, limit)
	}
	o := oracle.New(0)
	o.Noted(2)
	checkWantsNone(t, o)
	checkTime(t, o, 1)
	checkWantsNone(t, o)
	checkTime(t, o, 2)
	checkWants(t, o, 102)
	checkNoTime(t, o)
}

// P12.2: a limit that is greater is it from then on.
func TestNotedGreater(t *testing.T) {
	o := oracle.New(10)
	o.Noted(11)
	o.Noted(12)
	o.Noted(14)
	checkTimes(t, o, 11, 4)
	checkNoTime(t, o)
	checkWants(t, o, 114)
}

// P12.2: one that is the same, or less, is nothing: at the limit, and below it.
func TestNotedNotGreater(t *testing.T) {
	for _, from := range []uint64{10, 1<<63 - 1, 1 << 63, greatest - 200} {
		o := oracle.New(from)
		for _, limit := range []uint64{from, from - 1, from - 10, 1, 0} {
			o.Noted(limit)
			checkLast(t, o, from)
			checkNoTime(t, o)
			checkWants(t, o, from+100)
		}
		o.Noted(from + 3)
		for i, limit := range []uint64{from + 3, from + 2, from} {
			o.Noted(limit)
			checkWantsNone(t, o)
			checkTime(t, o, from+uint64(i)+1)
			o.Noted(0)
		}
		checkNoTime(t, o)
		checkWants(t, o, from+103)
	}
}

// P12.2: numbers are unsigned: one from 2^63 on is greater than one below it, and never less.
func TestNotedUnsigned(t *testing.T) {
	for _, limit := range []uint64{1 << 63, 1<<63 + 1, greatest - 1, greatest} {
		o := oracle.New(1<<63 - 1)
		o.Noted(limit)
		checkWantsNone(t, o)
		checkTime(t, o, 1<<63)
		small := oracle.New(0)
		small.Noted(limit)
		checkWantsNone(t, small)
		checkTimes(t, small, 1, 300)
		great := oracle.New(limit)
		great.Noted(1<<63 - 1)
		great.Noted(1)
		checkLast(t, great, limit)
		checkNoTime(t, great)
	}
}

// P12.2: the greatest number may be noted: then no limit is wanted any more.
func TestNotedGreatest(t *testing.T) {
	o := oracle.New(3)
	o.Noted(greatest)
	for i := range uint64(500) {
		checkWantsNone(t, o)
		checkTime(t, o, 4+i)
		o.Noted(greatest)
		o.Noted(i)
	}
}

// P12.2: one that was not wanted counts as any other: more than was wanted, or less of it, or ahead of the limit being reached.
func TestNotedNotWanted(t *testing.T) {
	o := oracle.New(0)
	checkWants(t, o, 100)
	o.Noted(1)
	checkTime(t, o, 1)
	checkNoTime(t, o)
	checkWants(t, o, 101)
	o.Noted(250)
	checkTimes(t, o, 2, 9)
	checkWantsNone(t, o)
	o.Noted(300) // 240 times are left
	checkWantsNone(t, o)
	checkTimes(t, o, 11, 290)
	checkNoTime(t, o)
	checkWants(t, o, 400)
}
