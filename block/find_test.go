package block_test

import (
	"math/rand/v2"
	"slices"
	"testing"

	"isogloss/block"
)

// checkFindIs holds that Find answers just this.
func checkFindIs(t *testing.T, l []block.Entry, key string, want int, ok bool) {
	t.Helper()
	if got, gotOK := block.Find(l, key); got != want || gotOK != ok {
		t.Errorf("Find(%v, of %d, %q): %d, %v, not %d, %v", briefly(l), len(l), key, got, gotOK, want, ok)
	}
}

// slowFind is where the key is, or would be: each entry is asked.
func slowFind(l []block.Entry, key string) (where int, ok bool) {
	for _, entry := range l {
		if entry.Key < key {
			where++
		}
		ok = ok || entry.Key == key
	}
	return where, ok
}

// P10.2: of no entries each key would be at the beginning.
func TestFindOfNone(t *testing.T) {
	for _, key := range []string{"", "a", "\x00", "\xff", "key"} {
		checkFindIs(t, nil, key, 0, false)
		checkFindIs(t, []block.Entry{}, key, 0, false)
		checkFindIs(t, keyed("a", "b")[:0], key, 0, false)
	}
}

// P10.2: ahead of the first key, at each, between two, behind the last.
func TestFindOfSome(t *testing.T) {
	l := keyed("b", "bb", "d", "\x80")
	for _, key := range []string{"", "\x00", "a", "azz", "a\xff"} {
		checkFindIs(t, l, key, 0, false)
	}
	checkFindIs(t, l, "b", 0, true)
	for _, key := range []string{"b\x00", "ba", "ba\xff"} {
		checkFindIs(t, l, key, 1, false)
	}
	checkFindIs(t, l, "bb", 1, true)
	for _, key := range []string{"bb\x00", "bbb", "bc", "c", "c\xff"} {
		checkFindIs(t, l, key, 2, false)
	}
	checkFindIs(t, l, "d", 2, true)
	for _, key := range []string{"d\x00", "e", "z", "\x7f", "\x7f\xff"} {
		checkFindIs(t, l, key, 3, false)
	}
	checkFindIs(t, l, "\x80", 3, true)
	for _, key := range []string{"\x80\x00", "\x81", "\xff", "\xff\xff"} {
		checkFindIs(t, l, key, 4, false)
	}
}

// P10.2: the empty key, there and not.
func TestFindEmptyKey(t *testing.T) {
	checkFindIs(t, keyed(""), "", 0, true)
	checkFindIs(t, keyed("", "a"), "", 0, true)
	checkFindIs(t, keyed("a"), "", 0, false)
	checkFindIs(t, keyed(""), "\x00", 1, false)
	checkFindIs(t, keyed("", "a"), "\x00", 1, false)
}

// P10.2: blocks of every length up to some tens: each key, and ahead of and behind each.
func TestFindOfEachLength(t *testing.T) {
	for n := range 90 {
		var l []block.Entry
		for i := range n {
			l = append(l, with(string([]byte{byte(2*i + 1)}), gone(1)))
		}
		for i := range n {
			checkFindIs(t, l, string([]byte{byte(2*i + 1)}), i, true)
			checkFindIs(t, l, string([]byte{byte(2 * i)}), i, false)
			checkFindIs(t, l, string([]byte{byte(2*i + 1), 0}), i+1, false)
		}
		checkFindIs(t, l, "", 0, false)
		checkFindIs(t, l, "\xff", n, false)
	}
}

// P10.2: of blocks at random what the slow Find tells; what is put in where a key would be is a block.
func TestFindAtRandom(t *testing.T) {
	r := rand.New(rand.NewPCG(10, 3))
	for range 2000 {
		l := randomBlock(r, 30)
		keys := []string{"", randomText(r, 3), randomText(r, 5)}
		for _, entry := range l {
			keys = append(keys, entry.Key, entry.Key+"\x00", entry.Key[:len(entry.Key)/2])
		}
		for _, key := range keys {
			want, ok := slowFind(l, key)
			checkFindIs(t, l, key, want, ok)
			if where, ok := block.Find(l, key); !ok && where == want {
				mustInside(t, slices.Insert(slices.Clone(l), where, with(key, gone(1))))
			}
		}
	}
}

// P10.2, R1: of what is no block Find ends, too, and doesn't panic, nor tell a place that isn't there.
func TestFindOfNoBlock(t *testing.T) {
	r := rand.New(rand.NewPCG(10, 4))
	for range 3000 {
		l := make([]block.Entry, r.IntN(60))
		for i := range l {
			l[i] = with(randomText(r, 2))
		}
		key := randomText(r, 2)
		if where, ok := block.Find(l, key); where < 0 || where > len(l) || ok && l[where].Key != key {
			t.Errorf("Find(%v, of %d, %q): %d, %v", briefly(l), len(l), key, where, ok)
		}
	}
}
