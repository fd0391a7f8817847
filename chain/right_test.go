package chain_test

import (
	"math/rand/v2"
	"slices"
	"strings"
	"testing"

	"isogloss/api"
	"isogloss/chain"
)

// P9.1: no versions are a chain, and so is one of any time but 0.
func TestRightOfNoneAndOne(t *testing.T) {
	checkRight(t, nil, true)
	checkRight(t, []api.Version{}, true)
	for _, time := range []uint64{1, 2, 127, 128, 1 << 31, 1 << 32, 1<<63 - 1, 1 << 63, greatest - 1, greatest} {
		checkRight(t, []api.Version{at(time, "")}, true)
		checkRight(t, []api.Version{at(time, "a")}, true)
		checkRight(t, []api.Version{gone(time)}, true)
	}
	for _, v := range []api.Version{{}, at(0, "a"), gone(0)} {
		checkRight(t, []api.Version{v}, false)
		checkRight(t, []api.Version{v, at(1, "")}, false)
		checkRight(t, []api.Version{v, at(greatest, "b")}, false)
	}
}

// P9.1: times rise, by however much; equal ones, and those that fall, are none of a chain, wherever they stand.
func TestRightTimes(t *testing.T) {
	times := []uint64{1, 2, 3, 200, 1 << 31, 1<<31 + 1, 1 << 32, 1<<63 - 1, 1 << 63, 1<<63 + 1, greatest - 1, greatest}
	for _, a := range times {
		for _, b := range times {
			checkRight(t, []api.Version{at(a, "x"), at(b, "y")}, a < b)
			checkRight(t, []api.Version{gone(a), gone(b)}, a < b)
			for _, c := range times {
				checkRight(t, []api.Version{at(a, "x"), gone(b), at(c, "")}, a < b && b < c)
			}
		}
		checkRight(t, []api.Version{at(a, "x"), at(0, "y")}, false)
	}
}

// P9.1: one fault is enough, at each place of a chain of each length.
func TestRightOneFault(t *testing.T) {
	for _, n := range []int{1, 2, 3, 7, 199, 200} {
		for i := range n {
			l := rising(n, 2)
			checkRight(t, l, true)
			time := l[i].Time
			for _, wrong := range []api.Version{{Time: time, Gone: true, Value: "x"}, at(0, ""), at(time-2, ""), gone(time - 2)} {
				l[i] = wrong
				checkRight(t, l, false)
			}
			if i+1 < n {
				for _, wrong := range []uint64{time + 2, time + 3, greatest} {
					l[i] = at(wrong, "")
					checkRight(t, l, false)
				}
			}
		}
	}
}

// P9.1: what is gone has no value.
func TestRightGone(t *testing.T) {
	for _, value := range []string{"a", "\x00", "ab", strings.Repeat("v", api.MaxValue)} {
		wrong := api.Version{Time: 5, Gone: true, Value: value}
		checkRight(t, []api.Version{wrong}, false)
		checkRight(t, []api.Version{at(1, value), wrong}, false)
		checkRight(t, []api.Version{wrong, at(6, value)}, false)
		checkRight(t, []api.Version{at(5, value)}, true)
	}
}

// P9.1: a chain has at most MaxVersions versions.
func TestRightLength(t *testing.T) {
	for _, step := range []uint64{1, 3, 1 << 50} {
		for _, n := range []int{1, 198, 199, 200} {
			checkRight(t, rising(n, step), true)
		}
		for _, n := range []int{201, 202, 256, 400, 1000} {
			checkRight(t, rising(n, step), false)
		}
	}
}

// P9.1: no word of the chapter bounds a value: one may be longer than MaxValue, and all together longer than MaxBytes.
func TestRightLongValues(t *testing.T) {
	for _, n := range []int{api.MaxValue, api.MaxValue + 1, api.MaxMessage + 1, api.MaxBytes, api.MaxBytes + 1, 1 << 20} {
		long := strings.Repeat("v", n)
		checkRight(t, []api.Version{at(1, long)}, true)
		checkRight(t, []api.Version{at(1, long), at(2, long+long), gone(3)}, true)
		checkRight(t, []api.Version{{Time: 1, Gone: true, Value: long}}, false)
	}
}

// P9.1: lists at random, right and wrong ones, held against the chapter's words.
func TestRightAtRandom(t *testing.T) {
	r := rand.New(rand.NewPCG(9, 2))
	right := 0
	for range 20000 {
		var l []api.Version
		for range r.IntN(5) {
			l = append(l, api.Version{Time: r.Uint64N(6), Gone: r.IntN(3) == 0, Value: "a"[:r.IntN(2)]})
		}
		if r.IntN(2) == 0 {
			slices.SortFunc(l, func(a, b api.Version) int { return int(a.Time) - int(b.Time) })
		}
		want := slowRight(l)
		if got := chain.Right(l); got != want {
			t.Errorf("Right(%v): %v", l, got)
		}
		if want {
			right++
		}
	}
	if right < 2000 {
		t.Errorf("only %d were right", right)
	}
}
