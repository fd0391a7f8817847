package coord_test

import (
	"slices"
	"testing"

	"isogloss/api"
	"isogloss/coord"
)

// checkNodes holds which nodes are waited for, and which keys each one has.
func checkNodes(t *testing.T, o owner, keys []string, nodes []int, parts ...[]string) {
	t.Helper()
	b := newBoth(t, txn(1), coord.Prog{Reads: []string{"read"}, Writes: puts(keys...)}, o)
	b.start(5, 2).took(none("read"), 3)
	if got := b.fast.Waits(); !slices.Equal(got, nodes) {
		t.Errorf("Waits: %v, not %v", got, nodes)
	}
	for i, node := range nodes {
		var got []string
		for _, w := range b.fast.Part(node) {
			got = append(got, w.Key)
		}
		if !slices.Equal(got, parts[i]) {
			t.Errorf("Part(%d): %q, not %q", node, got, parts[i])
		}
	}
	for i, node := range nodes {
		stage := 3
		if i == len(nodes)-1 {
			stage = 4
		}
		b.vote(node, true, stage)
	}
}

// P14.1, P14.3: an owner that always answers one node: that alone has a part.
func TestOwnerOfOneNode(t *testing.T) {
	keys := []string{"a", "", "z", "b"}
	for _, node := range []int{0, 1, 4, 5, -1, leastNode, mostNode} {
		checkNodes(t, always(node), keys, []int{node}, keys)
	}
}

// P14.1, P14.3: one that hangs on the first byte, and one that hangs on all of a key.
func TestOwnerOfKeys(t *testing.T) {
	checkNodes(t, byFirst, []string{"c", "a1", "c1", "a", "b"}, []int{0, 1, 2}, []string{"a1", "a"}, []string{"b"}, []string{"c", "c1"})
	checkNodes(t, func(key string) int { return -len(key) }, []string{"a", "", "aaa", "b", "aa"}, []int{-3, -2, -1, 0}, []string{"aaa"}, []string{"aa"}, []string{"a", "b"}, []string{""})
	seen := map[string]int{"x": 9, "y": 3}
	checkNodes(t, func(key string) int { return seen[key] }, []string{"x", "z", "y"}, []int{0, 3, 9}, []string{"z"}, []string{"y"}, []string{"x"})
}

// P14.1, P14.3: one that answers numbers below 0, or so far apart that their difference goes around: they rise all the same.
func TestOwnerFarApart(t *testing.T) {
	checkNodes(t, farApart, []string{"a", "b", "c", "d", "e", "f", "g", "h"},
		[]int{leastNode, leastNode + 1, -1 << 62, -1, 0, 1, mostNode - 1, mostNode},
		[]string{"a"}, []string{"f"}, []string{"h"}, []string{"c"}, []string{"d"}, []string{"e"}, []string{"g"}, []string{"b"})
}

// P14.1, P14.3: a method value is an owner as any other.
func TestOwnerMethod(t *testing.T) {
	checkNodes(t, split(2).owner, []string{"cc", "a", "bbb"}, []int{0, 1}, []string{"a"}, []string{"cc", "bbb"})
}

// split is an owner by the length of keys.
type split int

func (s split) owner(key string) int {
	if len(key) < int(s) {
		return 0
	}
	return 1
}

// P14.1: an owner that answers otherwise each time changes nothing once the run is there.
func TestOwnerChanges(t *testing.T) {
	for _, stage := range []int{1, 2, 3, 4} {
		offset := 0
		moving := func(key string) int { return byFirst(key) + offset }
		r, e := coord.New(txn(1), coord.Prog{Reads: []string{"r"}, Writes: puts("a", "b")}, moving)
		if e != api.OK {
			t.Fatalf("error %d", e)
		}
		calls := []func(){func() { r.Start(5) }, func() { r.Took(none("r")) }, func() { r.Vote(0, true) }, func() { r.Vote(1, true) }, func() { r.Commit(6) }}
		for i, call := range calls {
			if i == stage {
				offset = 10
			}
			call()
			if l := slices.Concat(r.Part(0), r.Part(1)); !slices.Equal(l, puts("a", "b")) || len(r.Part(10)) > 0 {
				t.Errorf("behind %d: %v, and %v", i, l, r.Part(10))
			}
		}
		if r.Stage() != 5 {
			t.Errorf("stage %d", r.Stage())
		}
	}
}

// R1: of an owner that is nil, or panics, each key is at the node 0 of which it tells none.
func TestOwnerPanics(t *testing.T) {
	var nobody map[string]int
	for _, o := range []owner{nil, func(string) int { panic("none") }, func(string) int { panic(nil) }, func(key string) int { nobody[key]++; return 1 }, func(key string) int { return int(key[100]) }} {
		r, e := coord.New(txn(1), coord.Prog{Writes: puts("a", "b")}, o)
		if e != api.OK {
			t.Fatalf("error %d", e)
		}
		r.Start(5)
		if got := r.Waits(); !slices.Equal(got, []int{0}) || !slices.Equal(r.Part(0), puts("a", "b")) {
			t.Errorf("Waits: %v, Part: %v", got, r.Part(0))
		}
		r.Vote(0, true)
		r.Commit(6)
		if r.Stage() != 5 {
			t.Errorf("stage %d", r.Stage())
		}
	}
	some := func(key string) int { return int(key[1]) }
	r, _ := coord.New(txn(1), coord.Prog{Writes: puts("a", "b\x03", "c")}, some)
	r.Start(5)
	if got := r.Waits(); !slices.Equal(got, []int{0, 3}) {
		t.Errorf("Waits: %v", got)
	}
}
