package coord_test

import (
	"testing"

	"isogloss/api"
	"isogloss/coord"
)

// P14.2: at 4 a time below the start, or at it, changes nothing; one above it is the commit time, and the stage is 5.
func TestCommit(t *testing.T) {
	for _, start := range []uint64{1, 2, 50, 1 << 31, 1 << 32, 1<<63 - 1, 1 << 63, greatest - 1} {
		for _, time := range []uint64{start + 1, start + (greatest-start)/2 + 1, greatest} {
			b := run(t, nil, puts("a", "b")).start(start, 3).vote(0, true, 3).vote(1, true, 4)
			for _, early := range []uint64{0, 1, start / 2, start - 1, start} {
				if early <= start {
					b.commit(early, 4)
				}
			}
			b.commit(time, 5)
			if from, to := b.fast.Times(); from != start || to != time {
				t.Errorf("Times: %d, %d, not %d, %d", from, to, start, time)
			}
		}
	}
}

// P14.2: of a run that began at the greatest time no commit time is above it.
func TestCommitBehindGreatest(t *testing.T) {
	b := run(t, nil, puts("a")).start(greatest, 3).vote(0, true, 4)
	for _, time := range []uint64{0, 1, 1 << 63, greatest - 1, greatest} {
		b.commit(time, 4)
	}
	b.abort(6)
}

// P14.2: at each other stage a commit time changes nothing, and is none later.
func TestCommitElsewhere(t *testing.T) {
	for _, stage := range []int{1, 2, 3, 5, 6} {
		b := at(t, stage)
		for _, time := range []uint64{0, 1, 49, 50, 51, 59, 60, 61, greatest} {
			b.commit(time, stage)
		}
	}
	b := run(t, []string{"a"}, puts("a")).commit(9, 1).start(5, 2).commit(9, 2).took(none("a"), 3).commit(9, 3).vote(0, true, 4)
	if start, time := b.fast.Times(); start != 5 || time != 0 {
		t.Errorf("Times: %d, %d", start, time)
	}
	b.commit(8, 5).commit(9, 5).commit(7, 5)
	run(t, nil, nil).commit(9, 1).start(5, 5).commit(9, 5)
	run(t, []string{"a"}, nil).start(5, 2).commit(9, 2).took(none("a"), 5).commit(9, 5)
}

// P14.2: at 1 to 4 Abort ends a run.
func TestAbort(t *testing.T) {
	for stage := 1; stage <= 4; stage++ {
		at(t, stage).abort(6).abort(6)
	}
	run(t, nil, nil).abort(6)
	run(t, []string{"a"}, nil).abort(6)
	run(t, []string{"a"}, nil).start(5, 2).abort(6)
	run(t, nil, puts("a")).start(5, 3).abort(6)
}

// P14.2: at 5 and 6 it changes nothing.
func TestAbortOfOver(t *testing.T) {
	at(t, 5).abort(5).abort(5)
	at(t, 6).abort(6).abort(6)
	run(t, nil, nil).start(5, 5).abort(5)
	run(t, []string{"a"}, nil).start(5, 2).took(none("a"), 5).abort(5)
}

// P14.2: a run that is over stays so, whatever is called.
func TestOverStays(t *testing.T) {
	for i := range ends(t) {
		for j := range stay(ends(t)[i]) {
			b := ends(t)[i]
			stay(b)[j]()
			b.checkAll()
		}
		b := ends(t)[i]
		for range 2 {
			for _, call := range stay(b) {
				call()
			}
		}
		b.checkAll()
	}
}

// P14.3: the times at each stage: none, then the start, then the commit time, too.
func TestTimes(t *testing.T) {
	for stage, want := range map[int][2]uint64{1: {}, 2: {50, 0}, 3: {50, 0}, 4: {50, 0}, 5: {50, 60}, 6: {50, 0}} {
		if start, time := at(t, stage).fast.Times(); start != want[0] || time != want[1] {
			t.Errorf("at %d: %d, %d", stage, start, time)
		}
	}
}

// P14.3: a run that was aborted keeps the times that it was told; one without writes that was aborted while it read has no commit time.
func TestTimesOfAborted(t *testing.T) {
	for stage, want := range map[int]uint64{1: 0, 2: 50, 3: 50, 4: 50} {
		if start, time := at(t, stage).abort(6).fast.Times(); start != want || time != 0 {
			t.Errorf("behind %d: %d, %d", stage, start, time)
		}
	}
	if start, time := run(t, []string{"a"}, nil).start(5, 2).abort(6).fast.Times(); start != 5 || time != 0 {
		t.Errorf("%d, %d", start, time)
	}
}

// P14.3: what was read, behind each Took; it stays when the run goes on, and when it is aborted.
func TestReads(t *testing.T) {
	l := []coord.Read{found("a", 3, "v"), none("b"), found("a", 3, "v"), {Key: "c", Found: true, V: api.Version{Time: 4, Gone: true}}}
	for _, writes := range [][]api.Write{nil, puts("a")} {
		for n := range len(l) + 1 {
			b := run(t, []string{"a", "b", "a", "c"}, writes).start(5, 2)
			for i, x := range l[:n] {
				b.took(x, b.stageBehind(i+1))
				if got := b.fast.Reads(); len(got) != i+1 || got[i] != x {
					t.Errorf("Reads: %v", got)
				}
			}
			if n < len(l) {
				b.abort(6)
			}
			if got := b.fast.Reads(); len(got) != n {
				t.Errorf("Reads: %v", got)
			}
		}
	}
	b := run(t, []string{"a"}, puts("a")).start(5, 2).took(l[0], 3).vote(0, true, 4).commit(7, 5)
	if got := b.fast.Reads(); len(got) != 1 || got[0] != l[0] {
		t.Errorf("Reads: %v", got)
	}
}
