package coord_test

import (
	"testing"

	"isogloss/api"
)

// P14.2: a start of 0 is none, however often it is told.
func TestStartOfNone(t *testing.T) {
	for _, reads := range [][]string{nil, {"a"}, {"a", "b"}} {
		for _, writes := range [][]api.Write{nil, puts("a"), puts("a", "b")} {
			b := run(t, reads, writes)
			for range 3 {
				b.start(0, 1)
			}
			b.start(1, b.stageBehind(0))
		}
	}
}

// P14.2: a start of whatever time else is one: the stage is 2, or, without reads, 3, or, without writes too, 5, at that time.
func TestStart(t *testing.T) {
	for _, time := range []uint64{1, 2, 50, 1<<31 - 1, 1 << 32, 1<<63 - 1, 1 << 63, greatest - 1, greatest} {
		run(t, []string{"a", "b"}, puts("a", "b")).start(time, 2)
		run(t, []string{"a"}, nil).start(time, 2)
		b := run(t, nil, puts("b", "a")).start(time, 3)
		if start, commit := b.fast.Times(); start != time || commit != 0 {
			t.Errorf("Times: %d, %d", start, commit)
		}
		b = run(t, nil, nil).start(time, 5)
		if start, commit := b.fast.Times(); start != time || commit != time {
			t.Errorf("Times: %d, %d", start, commit)
		}
	}
}

// P14.2: at each later stage a start changes nothing.
func TestStartLater(t *testing.T) {
	for stage := 2; stage <= 6; stage++ {
		b := at(t, stage)
		for _, time := range []uint64{0, 1, 49, 50, 51, greatest} {
			b.start(time, stage)
		}
	}
	at(t, 1).abort(6).start(5, 6)
}

// P14.2: at each other stage than 2 there is no key that is next.
func TestNextElsewhere(t *testing.T) {
	for _, stage := range []int{1, 3, 4, 5, 6} {
		b := at(t, stage)
		for range 3 {
			if key, ok := b.fast.Next(); key != "" || ok {
				t.Errorf("at %d: %q, %t", stage, key, ok)
			}
			b.check(stage)
		}
	}
	if key, ok := at(t, 2).abort(6).fast.Next(); key != "" || ok {
		t.Errorf("%q, %t", key, ok)
	}
}

// P14.2: each key is next in its order, one that is read twice twice; that it is asked for changes nothing.
func TestNext(t *testing.T) {
	for _, reads := range [][]string{{"a"}, {"b", "a"}, {"a", "a"}, {"z", "", "a", "z", "z"}, {"", ""}, manyKeys(api.MaxWrites), {key100}} {
		for _, writes := range [][]api.Write{nil, puts("a", "b")} {
			b := run(t, reads, writes).start(5, 2)
			for i, want := range reads {
				for range 5 {
					if key, ok := b.fast.Next(); key != want || !ok {
						t.Errorf("Next: %q, %t, not %q", key, ok, want)
					}
				}
				b.check(2).took(none(want), b.stageBehind(i+1))
			}
			if key, ok := b.fast.Next(); key != "" || ok {
				t.Errorf("Next: %q, %t", key, ok)
			}
		}
	}
}

// P14.2: what was read is so, found or not, gone or not, of whatever time.
func TestTook(t *testing.T) {
	for _, stage := range []int{3, 5} {
		b := run(t, []string{"a", "b", "c", "", "a"}, puts("k", "l")[:5-stage]).start(5, 2)
		b.took(found("a", 3, "v"), 2).took(none("b"), 2).took(found("c", greatest, ""), 2)
		gone := found("", 2, "")
		gone.V.Gone = true
		b.took(gone, 2).took(found("a", 3, value500), stage)
	}
}

// P14.2: another key than the one that is next changes nothing: one that comes later, one that was read, one that isn't read at all, one that is alike.
func TestTookAnother(t *testing.T) {
	b := run(t, []string{"a", "b", "a", "c"}, puts("k")).start(5, 2)
	for i, key := range []string{"a", "b", "a", "c"} {
		for _, other := range []string{"", "a", "b", "c", "k", "aa", "a\x00", "A", "bb"} {
			if other != key {
				b.took(none(other), 2).took(found(other, 3, "v"), 2)
			}
		}
		b.took(found(key, 4, "w"), b.stageBehind(i+1))
	}
}

// P14.2: at each other stage than 2 nothing is read.
func TestTookElsewhere(t *testing.T) {
	for _, stage := range []int{1, 3, 4, 5, 6} {
		b := at(t, stage)
		for _, key := range []string{"", "a", "b", "cat"} {
			b.took(none(key), stage).took(found(key, 3, "other"), stage)
		}
	}
	at(t, 2).abort(6).took(none("b"), 6)
	run(t, nil, nil).took(none(""), 1).start(5, 5).took(none(""), 5)
	run(t, nil, puts("a")).took(none(""), 1).start(5, 3).took(none(""), 3)
}

// P14.2: behind the last one the stage is 3, or, without writes, 5, with the start as its commit time, which is told from then on.
func TestTookLast(t *testing.T) {
	for _, time := range []uint64{1, 50, 1 << 63, greatest} {
		for n := 1; n <= api.MaxWrites; n++ {
			for _, writes := range [][]api.Write{nil, puts("a")} {
				b := run(t, manyKeys(n), writes).start(time, 2)
				for i, key := range manyKeys(n) {
					if start, commit := b.fast.Times(); start != time || commit != 0 {
						t.Errorf("Times: %d, %d", start, commit)
					}
					b.took(none(key), b.stageBehind(i+1))
				}
				if start, commit := b.fast.Times(); start != time || len(writes) == 0 && commit != time || len(writes) > 0 && commit != 0 {
					t.Errorf("Times: %d, %d", start, commit)
				}
			}
		}
	}
}
