package coord_test

import (
	"slices"
	"testing"
	"unsafe"

	"isogloss/api"
	"isogloss/coord"
)

// lent is a text in memory of its own, which may be written over.
func lent(s string) string {
	room := []byte(s)
	return unsafe.String(unsafe.SliceData(room), len(room))
}

// overwrite writes over the memory of a text, which is the test's own.
func overwrite(s string) {
	if s != "" {
		room := unsafe.Slice(unsafe.StringData(s), len(s))
		for i := range room {
			room[i] = '#'
		}
	}
}

// lentProg is the same program, in memory of its own, with spare room behind its lists.
func lentProg(p coord.Prog) coord.Prog {
	own := coord.Prog{Reads: make([]string, 0, len(p.Reads)+3), Writes: make([]api.Write, 0, len(p.Writes)+3)}
	for _, key := range p.Reads {
		own.Reads = append(own.Reads, lent(key))
	}
	for _, w := range p.Writes {
		own.Writes = append(own.Writes, api.Write{Key: lent(w.Key), Gone: w.Gone, Value: lent(w.Value)})
	}
	_ = append(own.Reads, "spare", "spare", "spare")
	_ = append(own.Writes, put("spare", "room"), put("spare", "room"), put("spare", "room"))
	return own
}

// checkLeft holds that a program that was handed in is as it was, the spare room of its lists too.
func checkLeft(t *testing.T, p, want coord.Prog) {
	t.Helper()
	if !slices.Equal(p.Reads, want.Reads) || !slices.Equal(p.Writes, want.Writes) {
		t.Errorf("it became %s", brief(p))
	}
	for _, key := range p.Reads[len(p.Reads):cap(p.Reads)] {
		if key != "spare" {
			t.Errorf("in the spare room there is %q", key)
		}
	}
	for _, w := range p.Writes[len(p.Writes):cap(p.Writes)] {
		if w != put("spare", "room") {
			t.Errorf("in the spare room there is %v", w)
		}
	}
}

// overwriteReads writes over what was read, its memory too.
func overwriteReads(l []coord.Read) {
	for i, x := range l {
		overwrite(x.Key)
		overwrite(x.V.Value)
		l[i] = found("other", 77, "one")
	}
}

// overwriteWrites writes over writes, their memory too.
func overwriteWrites(l []api.Write) {
	for i, w := range l {
		overwrite(w.Key)
		overwrite(w.Value)
		l[i] = put("other", "one")
	}
	_ = append(l, drop("behind"))
}

// overwriteProg writes over a program, its memory too.
func overwriteProg(p coord.Prog) {
	for i, key := range p.Reads {
		overwrite(key)
		p.Reads[i] = "other"
	}
	_ = append(p.Reads, "behind")
	overwriteWrites(p.Writes)
}

// kept is a program with reads and writes of each kind.
func kept() coord.Prog {
	return coord.Prog{Reads: []string{"a", "bb", "a", ""}, Writes: []api.Write{put("cat", "first"), drop("a"), put("", "third"), put("bb", ""), put("cow", "last")}}
}

// P14.1, R5: what is handed in is left as it is, whatever the answer.
func TestHandedInIsLeft(t *testing.T) {
	for _, p := range []coord.Prog{
		kept(),
		{},
		{Reads: []string{"z", "a", "z"}},
		{Writes: puts("z", "b", "a")},
		{Reads: manyKeys(9), Writes: puts("z", "a")},
		{Writes: manyPuts(9)},
		{Writes: puts("z", "a", "z")},
		{Reads: []string{"z", key101}, Writes: puts("z", "a")},
	} {
		handed := lentProg(p)
		r, e := coord.New(txn(1), handed, byFirst)
		checkLeft(t, handed, p)
		if e != api.OK {
			continue
		}
		r.Start(5)
		for _, key := range p.Reads {
			r.Took(none(key))
		}
		for _, node := range r.Waits() {
			overwriteWrites(r.Part(node))
			r.Vote(node, true)
		}
		r.Commit(9)
		checkLeft(t, handed, p)
	}
}

// P14.1, R5: what is handed in isn't kept: the program is written over behind New, and runs as it was.
func TestHandedInIsNotKept(t *testing.T) {
	handed := lentProg(kept())
	r, e := coord.New(txn(1), handed, byFirst)
	if e != api.OK {
		t.Fatalf("error %d", e)
	}
	overwriteProg(handed)
	b := &both{t, r, newSlow(txn(1), kept(), byFirst)}
	b.check(1).start(5, 2)
	for i, key := range kept().Reads {
		b.took(found(key, 3, "v"), b.stageBehind(i+1))
	}
	b.vote(2, true, 3).vote(1, true, 3).vote(0, true, 4).commit(6, 5)
}

// P14.2, R5: nor is what was read kept.
func TestTookIsNotKept(t *testing.T) {
	b := run(t, []string{"a", "bb"}, nil).start(5, 2)
	for i, key := range []string{"a", "bb"} {
		handed := []coord.Read{found(lent(key), 3, lent("value"))}
		b.fast.Took(handed[0])
		if handed[0] != found(key, 3, "value") {
			t.Errorf("it became %v", handed)
		}
		overwriteReads(handed)
		b.slow.take(found(key, 3, "value"))
		b.check(b.stageBehind(i + 1))
	}
}

// P14.2, R5: the key that Next answers is new memory.
func TestNextIsNew(t *testing.T) {
	b := run(t, []string{"a", "bb"}, nil).start(5, 2)
	for i, want := range []string{"a", "bb"} {
		one, _ := b.fast.Next()
		other, _ := b.fast.Next()
		overwrite(one)
		if other != want {
			t.Errorf("the other one became %q", other)
		}
		b.took(none(want), b.stageBehind(i+1))
	}
}

// P14.3, R5: each list of Waits is a new one: one that is written over, or grows, changes no other one, and not what is waited for; and it stays when a vote comes.
func TestWaitsIsNew(t *testing.T) {
	b := run(t, nil, puts("a", "b", "c", "d")).start(5, 3)
	one, other := b.fast.Waits(), b.fast.Waits()
	_ = append(one[:1], 70, 71)
	_ = append(one, 72)
	for i := range one {
		one[i] = 99
	}
	if !slices.Equal(other, []int{0, 1, 2, 3}) {
		t.Errorf("the other list became %v", other)
	}
	b.check(3).vote(1, true, 3).vote(0, true, 3)
	if !slices.Equal(other, []int{0, 1, 2, 3}) {
		t.Errorf("what was answered became %v", other)
	}
	b.vote(99, true, 3).vote(3, true, 3).vote(2, true, 4)
}

// P14.3, R5: so each list of Part.
func TestPartIsNew(t *testing.T) {
	for stage := 1; stage <= 6; stage++ {
		b := at(t, stage)
		one, other := b.fast.Part(2), b.fast.Part(2)
		overwriteWrites(one)
		_ = append(one[:1], drop("grown"))
		if !slices.Equal(other, []api.Write{put("cat", "x"), put("cow", "y")}) {
			t.Errorf("the other list became %v", other)
		}
		b.check(stage)
	}
}

// P14.3, R5: so each list of Reads; and it stays when the run reads on.
func TestReadsIsNew(t *testing.T) {
	b := run(t, []string{"a", "b", "c", "d"}, nil).start(5, 2)
	b.took(found("a", 3, "v"), 2).took(none("b"), 2).took(found("c", 4, "w"), 2)
	want := []coord.Read{found("a", 3, "v"), none("b"), found("c", 4, "w")}
	one, other := b.fast.Reads(), b.fast.Reads()
	overwriteReads(one)
	_ = append(one[:1], none("grown"))
	_ = append(one, none("grown"))
	if !slices.Equal(other, want) {
		t.Errorf("the other list became %v", other)
	}
	b.check(2).took(none("d"), 5)
	if !slices.Equal(other, want) {
		t.Errorf("what was answered became %v", other)
	}
}

// P14.1, R5: an owner may write over the program that was handed in, once it is asked: it runs as it was.
func TestOwnerThatWrites(t *testing.T) {
	p := kept()
	r, e := coord.New(txn(1), p, func(key string) int {
		clear(p.Writes)
		clear(p.Reads)
		return byFirst(key)
	})
	if e != api.OK {
		t.Fatalf("error %d", e)
	}
	(&both{t, r, newSlow(txn(1), kept(), byFirst)}).check(1).start(5, 2)
}
