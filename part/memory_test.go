package part_test

import (
	"slices"
	"testing"
	"unsafe"

	"isogloss/api"
)

// lent is a text in memory of its own, which may be written over.
func lent(s string) string {
	room := []byte(s)
	return unsafe.String(unsafe.SliceData(room), len(room))
}

// overwrite writes over the memory of a text, which is the test's own.
func overwrite(s string) {
	if s != "" {
		room := unsafe.Slice(unsafe.StringData(s), len(s))
		for i := range room {
			room[i] = '#'
		}
	}
}

// lentWrites are the same writes, in memory of their own, with spare room behind them.
func lentWrites(l []api.Write) []api.Write {
	own := make([]api.Write, 0, len(l)+3)
	for _, w := range l {
		own = append(own, api.Write{Key: lent(w.Key), Gone: w.Gone, Value: lent(w.Value)})
	}
	spare := own[len(l):cap(own)]
	for i := range spare {
		spare[i] = put("spare", "room")
	}
	return own
}

// checkLeft holds that writes that were handed in are as they were, their spare room too.
func checkLeft(t *testing.T, l, want []api.Write) {
	t.Helper()
	if !slices.Equal(l, want) {
		t.Errorf("they became %s", brief(l))
	}
	for _, w := range l[len(l):cap(l)] {
		if w != put("spare", "room") {
			t.Errorf("in the spare room there is %v", w)
		}
	}
}

// overwriteAll writes over writes, their memory too.
func overwriteAll(l []api.Write) {
	for i := range l {
		overwrite(l[i].Key)
		overwrite(l[i].Value)
		l[i] = put("other", "one")
	}
	_ = append(l, drop("behind"))
}

// P13.1, R5: what is handed in is left as it is, whatever the answer.
func TestHandedInIsLeft(t *testing.T) {
	b := held(t)
	for _, l := range [][]api.Write{
		puts("z", "b", "", "a"),
		{drop("x"), put("y", "v"), drop("w")},
		puts("z", "locked"),
		puts("later", "z"),
		puts("full", "z"),
		puts("b", "a", "b"),
		manyPuts(9),
		{},
	} {
		handed := lentWrites(l)
		b.fast.May(txn(1), 200, handed)
		checkLeft(t, handed, l)
		b.fast.Prepare(txn(1), 200, handed)
		checkLeft(t, handed, l)
		b.fast.Prepare(txn(1), 300, handed)
		checkLeft(t, handed, l)
		b.fast.Commit(txn(1), 250)
		checkLeft(t, handed, l)
	}
}

// P13.1, P13.2, R5: what is handed in isn't kept: the writes are written over behind Prepare, and committed as they were.
func TestHandedInIsNotKept(t *testing.T) {
	want := []api.Write{put("a", "first"), drop("b"), put("c", "third"), put("", ""), put("kk", "last")}
	b := newBoth(t, has{"a", at(1, "old")})
	handed := lentWrites(want)
	if e := b.fast.Prepare(txn(1), 5, handed); e != api.OK {
		t.Fatalf("error %d", e)
	}
	b.slow.prepare(txn(1), 5, want)
	overwriteAll(handed)
	b.checkAll(append(want, put("other", ""), put("#", ""), put("##", ""))...)
	again := lentWrites(want)
	b.fast.Prepare(txn(1), 5, again)
	overwriteAll(again)
	b.commit(txn(1), 6, api.OK)
	b.checkAll(want...)
	b.checkRead("a", 6, at(6, "first"), api.OK)
	b.checkRead("b", 6, gone(6), api.OK)
	b.checkRead("c", 6, at(6, "third"), api.OK)
}

// P13.2, R5: so where it is aborted: the keys that were locked are free.
func TestHandedInIsNotKeptByAbort(t *testing.T) {
	b := newBoth(t)
	want := puts("a", "bb", "ccc")
	handed := lentWrites(want)
	b.fast.Prepare(txn(1), 5, handed)
	b.slow.prepare(txn(1), 5, want)
	overwriteAll(handed)
	b.abort(txn(1), api.OK)
	b.checkAll(append(want, put("other", ""), put("#", ""))...)
	b.prepare(txn(2), 5, puts("a", "bb", "ccc", "other", "#"), api.OK)
}

// P13.1, R5: nor is a key kept that was asked for.
func TestAskedIsLeft(t *testing.T) {
	b := newBoth(t, has{"k", at(5, "v")})
	b.prepare(txn(1), 5, puts("locked"), api.OK)
	for _, key := range []string{"k", "locked", "none"} {
		handed := lent(key)
		b.fast.Read(handed, 9)
		if handed != key {
			t.Errorf("it became %q", handed)
		}
		overwrite(handed)
		b.checkAll()
	}
}

// P13.1, R5: what Read answers is new memory.
func TestReadIsNew(t *testing.T) {
	b := newBoth(t, has{"k", at(5, "value")})
	b.prepare(txn(1), 5, puts("m"), api.OK)
	b.commit(txn(1), 6, api.OK)
	for _, key := range []string{"k", "m"} {
		want, _ := b.slow.at(key, 9)
		one, _ := b.fast.Read(key, 9)
		other, _ := b.fast.Read(key, 9)
		overwrite(one.Value)
		if other != want {
			t.Errorf("the other one became %v", other)
		}
		b.checkAll()
	}
}

// P13.2, R5: each list of All is a new one: one that is written over, or grows, changes no other one, and not what is prepared.
func TestAllIsNew(t *testing.T) {
	b := newBoth(t)
	for i := range 5 {
		b.prepare(txn(i), 5, manyPuts(5)[i:i+1], api.OK)
	}
	one, other := b.fast.All(), b.fast.All()
	for i := range one {
		one[i] = api.Txn{Node: 9, Life: 9, Seq: 9}
	}
	_ = append(one[:1], txn(7), txn(8))
	_ = append(one, txn(9))
	if !slices.Equal(other, b.slow.all()) {
		t.Errorf("the other list became %v", other)
	}
	b.checkAll()
	kept := slices.Clone(other)
	b.abort(txn(1), api.OK)
	b.prepare(txn(6), 5, puts("x"), api.OK)
	if !slices.Equal(other, kept) {
		t.Errorf("what was answered became %v", other)
	}
	b.checkAll()
}
