package wire_test

import (
	"testing"
	"unsafe"

	"isogloss/api"
	"isogloss/msg"
)

// lent is a text in memory of its own, which may be written over.
func lent(s string) string {
	room := []byte(s)
	return unsafe.String(unsafe.SliceData(room), len(room))
}

// overwrite writes over the memory of a text, which is the test's own.
func overwrite(s string) {
	if s != "" {
		room := unsafe.Slice(unsafe.StringData(s), len(s))
		for i := range room {
			room[i] = '#'
		}
	}
}

// lentMsg is the same message, in memory of its own, with spare room behind its writes.
func lentMsg(m msg.Msg) msg.Msg {
	m.Key, m.V.Value, m.Note = lent(m.Key), lent(m.V.Value), lent(m.Note)
	own := make([]api.Write, 0, len(m.Writes)+3)
	for _, w := range m.Writes {
		own = append(own, api.Write{Key: lent(w.Key), Gone: w.Gone, Value: lent(w.Value)})
	}
	_ = append(own, api.Write{Key: "spare"}, api.Write{Key: "spare"}, api.Write{Key: "spare"})
	m.Writes = own
	return m
}

// overwriteMsg writes over what a message has, its memory too, also behind its writes.
func overwriteMsg(m msg.Msg) {
	overwrite(m.Key)
	overwrite(m.V.Value)
	overwrite(m.Note)
	for i := range m.Writes {
		overwrite(m.Writes[i].Key)
		overwrite(m.Writes[i].Value)
		m.Writes[i] = api.Write{Key: "other"}
	}
	_ = append(m.Writes, api.Write{Key: "behind"}, api.Write{Key: "behind"})
}

// checkLeft holds that a message that was handed in is as it was, the spare room of its writes too.
func checkLeft(t *testing.T, m, want msg.Msg) {
	t.Helper()
	if !same(m, want) {
		t.Errorf("%s became %s", brief(want), brief(m))
	}
	for _, w := range m.Writes[len(m.Writes):cap(m.Writes)] {
		if w != (api.Write{Key: "spare"}) {
			t.Errorf("in the spare room there is %v", w)
		}
	}
}

// P16.1, R5: a message that is handed in is left, whatever the answer, and isn't kept: it is written over behind Put.
func TestMessageIsNotKept(t *testing.T) {
	for _, m := range append(ofEachKind(t), wrong()...) {
		for version := 0; version <= 4; version++ {
			b := fresh(t)
			want := b.slow.put(m, version, 3)
			handed := lentMsg(m)
			if e := b.fast.Put(handed, version, 3); e != want {
				t.Errorf("Put(%s): error %d, not %d", brief(m), e, want)
			}
			checkLeft(t, handed, m)
			overwriteMsg(handed)
			b.check().twice(0).drain()
		}
	}
}

// P16.2, R5: what is answered is new memory: of some that came by Twice each is written over behind Take, and the next one is as it was.
func TestTakeIsNew(t *testing.T) {
	for _, m := range ofEachKind(t) {
		b := with(t, m).twice(0).twice(1).flip(2, 5).twice(2).flip(2, 5)
		for _, i := range []int{2, 0, 0} {
			got, ok := b.fast.Take(i, 3)
			b.slow.drop(i)
			if !ok || !same(got, m) {
				t.Errorf("Take(%d): %s, %t, not %s", i, brief(got), ok, brief(m))
			}
			overwriteMsg(got)
			b.check()
		}
		b.flip(0, 5).takeIs(0, 3, m)
	}
}

// P16.2, R5: what was taken stays as it was, whatever the net is told later.
func TestTakenStays(t *testing.T) {
	m := full(4, true)
	b := with(t, m, m).twice(1).twice(0)
	got, ok := b.fast.Take(1, 3)
	b.slow.drop(1)
	for i := range 40 {
		b.flip(i%3, i).put(to(i, "other"), 3, 3, api.OK).drop(0).twice(1)
	}
	b.drain()
	if !ok || !same(got, m) {
		t.Errorf("it became %s", brief(got))
	}
}
