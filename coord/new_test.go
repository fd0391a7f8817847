package coord_test

import (
	"slices"
	"strings"
	"testing"

	"isogloss/api"
	"isogloss/coord"
)

// The longest key, and value, and those that are too long by one byte.
var (
	key100   = strings.Repeat("k", api.MaxKey)
	key101   = strings.Repeat("k", api.MaxKey+1)
	value500 = strings.Repeat("v", api.MaxValue)
	value501 = strings.Repeat("v", api.MaxValue+1)
)

// refuse holds that New answers an error, and no run, of each owner.
func refuse(t *testing.T, p coord.Prog, want api.Errno) {
	t.Helper()
	for _, o := range append(owners(), nil) {
		if r, e := coord.New(txn(1), p, o); e != want || r != nil {
			t.Errorf("New(%s): error %d, not %d, and a run: %t", brief(p), e, want, r != nil)
		}
	}
}

// goThrough holds a program from its beginning to its commit.
func goThrough(t *testing.T, p coord.Prog, o owner) {
	t.Helper()
	b := newBoth(t, txn(1), p, o)
	b.start(50, b.stageBehind(0))
	for i, key := range p.Reads {
		b.took(found(key, uint64(i), "v"), b.stageBehind(i+1))
	}
	nodes := b.slow.waits()
	for i, node := range nodes {
		stage := 3
		if i == len(nodes)-1 {
			stage = 4
		}
		b.vote(node, true, stage)
	}
	b.commit(51, 5)
}

// P14.1, P14.2, P14.3: the chapter's example: of writes at two nodes two votes, a time, and it has committed.
func TestExample(t *testing.T) {
	b := run(t, nil, puts("a", "b"))
	b.start(5, 3).vote(0, true, 3).vote(1, true, 4).commit(6, 5)
	if start, time := b.fast.Times(); start != 5 || time != 6 {
		t.Errorf("Times: %d, %d", start, time)
	}
}

// P14.1, P14.2: programs of none, of one, of some and of MaxWrites reads, and of as many writes, with each owner.
func TestPrograms(t *testing.T) {
	for _, reads := range []int{0, 1, 2, 5, api.MaxWrites} {
		for _, writes := range []int{0, 1, 2, 5, api.MaxWrites} {
			for _, o := range owners() {
				goThrough(t, coord.Prog{Reads: manyKeys(reads), Writes: manyPuts(writes)}, o)
				goThrough(t, coord.Prog{Reads: manyKeys(reads), Writes: puts("h", "g", "f", "e", "d", "c", "b", "a")[:writes]}, o)
			}
		}
	}
}

// P14.1: a new run has its number, whatever that is, is at the stage 1, and was told nothing; of no reads and no writes, too.
func TestNewRun(t *testing.T) {
	for _, n := range []api.Txn{{}, txn(1), {Node: 4, Life: 9, Seq: 100}, {Node: -1, Life: -2, Seq: -3}, {Node: mostNode, Life: leastNode, Seq: mostNode}} {
		for _, p := range []coord.Prog{{}, {Reads: []string{}, Writes: []api.Write{}}, {Reads: []string{"a"}}, {Writes: puts("a")}, {Reads: []string{"a", "b"}, Writes: puts("a", "b")}} {
			r := newBoth(t, n, p, byFirst).fast
			start, time := r.Times()
			if r.Txn() != n || r.Stage() != 1 || start != 0 || time != 0 || len(r.Reads()) > 0 || len(r.Waits()) > 0 {
				t.Errorf("%v: stage %d, times %d, %d, reads %v, waits %v", r.Txn(), r.Stage(), start, time, r.Reads(), r.Waits())
			}
			if key, ok := r.Next(); key != "" || ok {
				t.Errorf("Next: %q, %t", key, ok)
			}
		}
	}
}

// P14.1: MaxWrites reads, and more.
func TestNewManyReads(t *testing.T) {
	for _, writes := range [][]api.Write{nil, puts("a"), manyPuts(api.MaxWrites)} {
		goThrough(t, coord.Prog{Reads: manyKeys(api.MaxWrites), Writes: writes}, byFirst)
		for _, n := range []int{api.MaxWrites + 1, api.MaxWrites + 2, 100, 70000} {
			refuse(t, coord.Prog{Reads: manyKeys(n), Writes: writes}, api.ErrArg)
			refuse(t, coord.Prog{Reads: make([]string, n), Writes: writes}, api.ErrArg)
		}
	}
}

// P14.1: MaxWrites writes, and more.
func TestNewManyWrites(t *testing.T) {
	for _, reads := range [][]string{nil, {"a"}, manyKeys(api.MaxWrites)} {
		goThrough(t, coord.Prog{Reads: reads, Writes: manyPuts(api.MaxWrites)}, byFirst)
		for _, n := range []int{api.MaxWrites + 1, api.MaxWrites + 2, 100, 70000} {
			refuse(t, coord.Prog{Reads: reads, Writes: manyPuts(n)}, api.ErrArg)
		}
	}
}

// P14.1: a key that is written twice, at each two places, with the same write and with others.
func TestNewTwice(t *testing.T) {
	kinds := [][2]api.Write{{put("k", "v"), put("k", "v")}, {put("k", "v"), put("k", "w")}, {put("k", ""), drop("k")}, {drop("k"), put("k", "v")}, {drop("k"), drop("k")}, {drop(""), put("", "v")}, {}}
	for _, n := range []int{2, 3, api.MaxWrites} {
		for first := range n {
			for second := first + 1; second < n; second++ {
				for _, two := range kinds {
					l := manyPuts(n)
					l[first], l[second] = two[0], two[1]
					refuse(t, coord.Prog{Writes: l}, api.ErrArg)
					refuse(t, coord.Prog{Reads: manyKeys(3), Writes: l}, api.ErrArg)
				}
			}
		}
	}
}

// P14.1: keys that begin with one another, or look alike, are no key twice.
func TestNewAlike(t *testing.T) {
	for _, o := range owners() {
		goThrough(t, coord.Prog{Writes: puts("", "k", "kk", "K", "k\x00", "\x00k", "ä", "a\u0308")}, o)
	}
}

// P14.1: a key that is read twice, or read and written, is no error.
func TestNewReadTwice(t *testing.T) {
	for _, reads := range [][]string{{"a", "a"}, {"a", "b", "a"}, slices.Repeat([]string{"a"}, api.MaxWrites), slices.Repeat([]string{""}, api.MaxWrites)} {
		for _, writes := range [][]api.Write{nil, puts("a"), {drop("b"), put("a", "v")}, puts("", "z")} {
			goThrough(t, coord.Prog{Reads: reads, Writes: writes}, byFirst)
		}
	}
}

// P14.1: what is gone with a value, at each place; and gone with none.
func TestNewGone(t *testing.T) {
	for _, n := range []int{1, 2, api.MaxWrites} {
		for i := range n {
			l := manyPuts(n)
			for _, value := range []string{"v", "\x00", " ", value500} {
				l[i] = api.Write{Key: "k", Gone: true, Value: value}
				refuse(t, coord.Prog{Writes: l}, api.ErrArg)
				refuse(t, coord.Prog{Reads: []string{"k"}, Writes: l}, api.ErrArg)
			}
			l[i] = drop("k")
			goThrough(t, coord.Prog{Writes: l}, byFirst)
			l[i] = put("k", "")
			goThrough(t, coord.Prog{Writes: l}, byFirst)
		}
	}
}

// P14.1: a key that is read, of MaxKey bytes and of more, at each place.
func TestNewLongRead(t *testing.T) {
	for _, n := range []int{1, 2, api.MaxWrites} {
		for i := range n {
			reads := manyKeys(n)
			reads[i] = key100
			goThrough(t, coord.Prog{Reads: reads, Writes: puts("a")}, byFirst)
			goThrough(t, coord.Prog{Reads: reads}, byFirst)
			for _, long := range []string{key101, strings.Repeat("\x00", api.MaxKey+1), strings.Repeat("k", 70000)} {
				reads[i] = long
				refuse(t, coord.Prog{Reads: reads, Writes: puts("a")}, api.ErrLong)
				refuse(t, coord.Prog{Reads: reads}, api.ErrLong)
			}
		}
	}
}

// P14.1: a key that is written, of MaxKey bytes and of more, at each place, gone and not.
func TestNewLongWrite(t *testing.T) {
	for _, n := range []int{1, 2, api.MaxWrites} {
		for i := range n {
			l := manyPuts(n)
			for _, w := range []api.Write{put(key100, "v"), drop(key100), put(key100, value500)} {
				l[i] = w
				goThrough(t, coord.Prog{Writes: l}, byFirst)
				goThrough(t, coord.Prog{Reads: []string{"a"}, Writes: l}, byFirst)
				for _, long := range []string{key101, strings.Repeat("\xff", api.MaxKey+1), strings.Repeat("k", 70000)} {
					l[i].Key = long
					refuse(t, coord.Prog{Writes: l}, api.ErrLong)
					refuse(t, coord.Prog{Reads: []string{"a"}, Writes: l}, api.ErrLong)
				}
			}
		}
	}
}

// P14.1: a value of MaxValue bytes and of more, at each place.
func TestNewLongValue(t *testing.T) {
	for _, n := range []int{1, 2, api.MaxWrites} {
		for i := range n {
			l := manyPuts(n)
			l[i] = put("k", value500)
			goThrough(t, coord.Prog{Writes: l}, byFirst)
			for _, long := range []string{value501, strings.Repeat("\x00", api.MaxValue+1), strings.Repeat("v", 70000)} {
				l[i].Value = long
				refuse(t, coord.Prog{Writes: l}, api.ErrLong)
				refuse(t, coord.Prog{Reads: []string{"a"}, Writes: l}, api.ErrLong)
			}
		}
	}
}

// P14.1, R2: of a program that has an ErrArg and an ErrLong the first one is told, whichever of them stands ahead.
func TestNewOrder(t *testing.T) {
	args := []coord.Prog{
		{Reads: manyKeys(api.MaxWrites + 1)},
		{Writes: manyPuts(api.MaxWrites + 1)},
		{Writes: puts("a", "b", "a")},
		{Writes: []api.Write{{Key: "g", Gone: true, Value: "v"}}},
	}
	longs := []coord.Prog{
		{Reads: []string{key101}},
		{Writes: []api.Write{put(key101, "v")}},
		{Writes: []api.Write{drop(key101)}},
		{Writes: []api.Write{put("long", value501)}},
	}
	for _, arg := range args {
		for _, long := range longs {
			refuse(t, long, api.ErrLong)
			refuse(t, coord.Prog{Reads: slices.Concat(long.Reads, arg.Reads), Writes: slices.Concat(long.Writes, arg.Writes)}, api.ErrArg)
			refuse(t, coord.Prog{Reads: slices.Concat(arg.Reads, long.Reads), Writes: slices.Concat(arg.Writes, long.Writes)}, api.ErrArg)
		}
	}
	refuse(t, coord.Prog{Writes: []api.Write{put(key101, "v"), put(key101, "v")}}, api.ErrArg)
	refuse(t, coord.Prog{Writes: []api.Write{{Key: key101, Gone: true, Value: value501}}}, api.ErrArg)
	refuse(t, coord.Prog{Reads: slices.Repeat([]string{key101}, api.MaxWrites+1)}, api.ErrArg)
}
