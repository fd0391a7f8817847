package wire_test

import (
	"testing"

	"isogloss/api"
	"isogloss/crc"
	"isogloss/msg"
	"isogloss/wire"
)

// P16.1, P16.2: the chapter's example, and nothing is on its way behind it.
func TestExample(t *testing.T) {
	n := wire.New(crc.Make())
	m := full(5, false)
	if e := n.Put(m, 3, 3); e != api.OK {
		t.Errorf("Put: error %d", e)
	}
	n.Twice(0)
	for range 2 {
		if got, ok := n.Take(0, 3); !same(got, m) || !ok {
			t.Errorf("Take: %s, %t", brief(got), ok)
		}
	}
	if n.Len() != 0 || n.To(0) != -1 || n.Version(0) != 0 {
		t.Errorf("%d are on their way", n.Len())
	}
}

// P16.1: a version that is none, of who sends, of who is sent to, and of both: ErrArg, whatever the message is, and nothing is on its way.
func TestPutNoVersion(t *testing.T) {
	b := fresh(t)
	l := append(wrong(), msg.Msg{Kind: 1}, full(1, true), most(t, 9))
	for _, v := range noVersions() {
		for right := 1; right <= 3; right++ {
			for _, m := range l {
				b.put(m, v, right, api.ErrArg).put(m, right, v, api.ErrArg).put(m, v, v, api.ErrArg)
			}
		}
	}
	with(t, numbered(3)...).put(msg.Msg{Kind: 1}, 0, 1, api.ErrArg).put(msg.Msg{Kind: 1}, 3, 4, api.ErrArg).drain()
}

// P16.1: ErrArg of a message that isn't right, in each pair of versions; ErrCritical of what the lesser one of both must not pass over, and hasn't.
func TestPutNoMessage(t *testing.T) {
	b := with(t, numbered(2)...)
	for from := 1; from <= 3; from++ {
		for to := 1; to <= 3; to++ {
			for _, m := range wrong() {
				b.put(m, from, to, api.ErrArg)
			}
			want := api.ErrCritical
			if from == 3 && to == 3 {
				want = api.OK
			}
			b.put(msg.Msg{Kind: 1, Must: 1}, from, to, want).put(full(7, true), from, to, want).put(most(t, 3), from, to, want)
		}
	}
	b.drain()
}

// P16.1: ErrArg of a version is told ahead of ErrCritical, and so is ErrArg of the message.
func TestPutOrder(t *testing.T) {
	must := msg.Msg{Kind: 1, Must: 1}
	b := fresh(t)
	for _, v := range noVersions() {
		b.put(must, 1, v, api.ErrArg).put(must, v, 2, api.ErrArg)
	}
	must.To = -1
	b.put(must, 1, 1, api.ErrArg).put(must, 2, 3, api.ErrArg).put(must, 3, 3, api.ErrArg)
}

// P16.1: in each pair of versions it is the lesser one in which a message of any kind is on its way: what that hasn't is left out, though it is taken in version 3.
func TestPutInTheLesserVersion(t *testing.T) {
	for from := 1; from <= 3; from++ {
		for to := 1; to <= 3; to++ {
			b := fresh(t)
			for _, m := range ofEachKind(t) {
				m.Must = 0
				want := m
				if min(from, to) < 3 {
					want.Hint = 0
				}
				if min(from, to) < 2 {
					want.Note = ""
				}
				b.put(m, from, to, api.OK).checkAt(0, m.To, min(from, to))
				b.takeIs(0, 3, want)
			}
		}
	}
}

// P16.1: what is on its way has as many bytes as layer 6's frame of layer 5's bytes in the lesser version: a bit that is so many behind it is the same one.
func TestPutLength(t *testing.T) {
	for from := 1; from <= 3; from++ {
		for to := 1; to <= 3; to++ {
			for _, m := range ofEachKind(t) {
				m.Must = 0
				bits := bitsOf(t, m, min(from, to))
				b := fresh(t).put(m, from, to, api.OK).flip(0, bits-1).flip(0, 2*bits-1).takeIs(0, min(from, to), projected(t, min(from, to), m))
				b.put(m, from, to, api.OK).flip(0, bits-1).flip(0, bits-2).flip(0, bits).takeNone(0, 3)
			}
		}
	}
}

// projected is m without what is from later versions.
func projected(t *testing.T, version int, m msg.Msg) msg.Msg {
	t.Helper()
	p, e := msg.Project(version, m)
	if e != api.OK {
		t.Fatalf("error %d", e)
	}
	return p
}

// P16.1: each is behind the others, in the order in which they came: with nothing on its way, one, and many.
func TestPutBehindTheOthers(t *testing.T) {
	for _, n := range []int{0, 1, 2, 3, 10, 100} {
		b := fresh(t)
		for i, m := range numbered(n) {
			b.put(m, 1+i%3, 1+i/3%3, api.OK)
		}
		for i, m := range numbered(n) {
			b.checkAt(0, i+10, min(1+i%3, 1+i/3%3))
			b.takeIs(0, 3, m)
		}
		b.put(to(7, "last"), 2, 2, api.OK).takeIs(0, 3, to(7, "last"))
	}
}

// P16.1: To is the node that the message names, from 0 to the greatest; who it is from isn't asked.
func TestTo(t *testing.T) {
	b := fresh(t)
	for i, node := range []int{0, 1, 4, 5, 1<<31 - 1} {
		b.put(msg.Msg{Kind: 1, From: 3, To: node}, 3, 1, api.OK).checkAt(i, node, 1)
	}
	b.drain()
}

// P16.1: Len, To and Version of none.
func TestNone(t *testing.T) {
	n := wire.New(crc.Make())
	for _, i := range append(none(0), 1, 2) {
		if n.To(i) != -1 || n.Version(i) != 0 || n.Len() != 0 {
			t.Errorf("of %d: %d, %d, and %d are there", i, n.To(i), n.Version(i), n.Len())
		}
	}
}
