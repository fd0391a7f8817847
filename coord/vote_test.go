package coord_test

import (
	"slices"
	"testing"

	"isogloss/api"
)

// orders are all orders of some nodes.
func orders(l []int) [][]int {
	if len(l) == 0 {
		return [][]int{nil}
	}
	var all [][]int
	for i, first := range l {
		rest := slices.Concat(l[:i], l[i+1:])
		for _, order := range orders(rest) {
			all = append(all, append([]int{first}, order...))
		}
	}
	return all
}

// P14.2: behind yes of each node that is waited for, in whatever order, the stage is 4, and not ahead of the last one.
func TestVoteYes(t *testing.T) {
	for n := 1; n <= api.MaxNodes; n++ {
		for _, order := range orders([]int{0, 1, 2, 3, 4}[:n]) {
			b := run(t, nil, puts("a", "b", "c", "d", "e", "aa", "aaa", "ab")[:n]).start(5, 3)
			for i, node := range order {
				stage := 3
				if i == n-1 {
					stage = 4
				}
				b.vote(node, true, stage)
			}
		}
	}
}

// P14.2: a node with some writes votes for all of them, once.
func TestVoteOnce(t *testing.T) {
	run(t, nil, manyPuts(api.MaxWrites)).start(5, 3).vote(int('k'-'a'), true, 4)
	b := run(t, nil, puts("b", "a", "bb", "c", "aa", "bbb", "cc", "cd")).start(5, 3)
	b.vote(1, true, 3).vote(1, true, 3).vote(2, true, 3).vote(1, true, 3).vote(2, false, 3).vote(0, true, 4)
}

// P14.2: no, of the first one, of one in the midst, of the last one, in whatever order: the stage is 6.
func TestVoteNo(t *testing.T) {
	for n := 1; n <= 4; n++ {
		for _, order := range orders([]int{0, 1, 2, 3}[:n]) {
			for who := range n {
				b := run(t, nil, puts("d", "b", "c", "a")[4-n:]).start(5, 3)
				l := b.slow.missing()
				for _, i := range order[:who] {
					b.vote(l[i], true, 3)
				}
				b.vote(l[order[who]], false, 6)
				for _, i := range order {
					b.vote(l[i], true, 6).vote(l[i], false, 6)
				}
			}
		}
	}
}

// P14.2: a node that isn't waited for changes nothing, by yes or no: one that has no write, one that has voted, one below 0, one that isn't there.
func TestVoteOfOthers(t *testing.T) {
	b := at(t, 3) // the nodes 0 and 4 are waited for, 2 has voted
	for _, node := range []int{1, 2, 3, 5, 6, 100, -1, -4, leastNode, mostNode, 4 - 1<<32, 1 << 32} {
		for _, yes := range []bool{true, false} {
			b.vote(node, yes, 3).vote(node, yes, 3)
		}
	}
	b.vote(4, true, 3)
	b.vote(4, false, 3).vote(4, true, 3).vote(2, false, 3)
	b.vote(0, true, 4)
}

// P14.2: at each other stage a vote changes nothing, and none that came ahead of the stage 3 counts there.
func TestVoteElsewhere(t *testing.T) {
	for _, stage := range []int{1, 2, 4, 5, 6} {
		b := at(t, stage)
		for node := -1; node <= 5; node++ {
			b.vote(node, true, stage).vote(node, false, stage)
		}
	}
	b := run(t, []string{"a"}, puts("a", "b")).vote(0, true, 1).vote(1, false, 1)
	b.start(5, 2).vote(0, true, 2).vote(1, false, 2).took(none("a"), 3)
	if got := b.fast.Waits(); !slices.Equal(got, []int{0, 1}) {
		t.Errorf("Waits: %v", got)
	}
	b.vote(0, true, 3).vote(1, true, 4)
	run(t, nil, nil).vote(0, false, 1).start(5, 5).vote(0, false, 5)
	run(t, []string{"a"}, nil).start(5, 2).vote(0, false, 2)
}

// P14.3: at 3 the nodes that haven't voted, rising, in whatever order the writes stand; at each other stage none.
func TestWaits(t *testing.T) {
	for _, keys := range [][]string{{"a", "b", "c", "d", "e"}, {"e", "d", "c", "b", "a"}, {"c", "a", "e", "b", "d"}, {"c", "c1", "a", "e", "e1", "b", "a1", "d"}} {
		b := run(t, []string{"r"}, puts(keys...))
		b.start(5, 2).took(none("r"), 3)
		want := []int{0, 1, 2, 3, 4}
		for _, node := range []int{2, 4, 0, 1} {
			if got := b.fast.Waits(); !slices.Equal(got, want) {
				t.Errorf("Waits: %v, not %v", got, want)
			}
			want = slices.DeleteFunc(want, func(other int) bool { return other == node })
			b.vote(node, true, 3)
		}
		if got := b.fast.Waits(); !slices.Equal(got, []int{3}) {
			t.Errorf("Waits: %v", got)
		}
	}
	for _, stage := range []int{1, 2, 4, 5, 6} {
		if got := at(t, stage).fast.Waits(); len(got) > 0 {
			t.Errorf("at %d: %v", stage, got)
		}
	}
	if got := at(t, 3).abort(6).fast.Waits(); len(got) > 0 {
		t.Errorf("Waits: %v", got)
	}
}

// P14.3: the writes that are at a node, in their order; of one that has none, none; so at each stage.
func TestPart(t *testing.T) {
	for stage := 1; stage <= 6; stage++ {
		r := at(t, stage).fast
		for node, want := range map[int][]api.Write{0: {put("axe", "")}, 2: {put("cat", "x"), put("cow", "y")}, 4: {drop("e")}, 1: nil, 3: nil, 5: nil, -1: nil, -2: nil, leastNode: nil, mostNode: nil} {
			if got := r.Part(node); !slices.Equal(got, want) {
				t.Errorf("at %d: Part(%d): %v", stage, node, got)
			}
		}
	}
	l := puts("c2", "a", "c1", "", "c", "b", "c3", "aa")
	if got := run(t, nil, l).fast.Part(2); !slices.Equal(got, []api.Write{l[0], l[2], l[4], l[6]}) {
		t.Errorf("Part: %v", got)
	}
	for node := -2; node < 3; node++ {
		if got := run(t, []string{"a", "b", "c"}, nil).fast.Part(node); len(got) > 0 {
			t.Errorf("Part: %v", got)
		}
	}
}
