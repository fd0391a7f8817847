package wire_test

import (
	"testing"

	"isogloss/api"
	"isogloss/msg"
)

// P16.2: the first, one in the midst, and the last are taken out; the others keep their order.
func TestTakeEach(t *testing.T) {
	for n := 1; n <= 6; n++ {
		l := numbered(n)
		for i, m := range l {
			b := with(t, l...).takeIs(i, 3, m)
			b.put(to(99, "new"), 3, 3, api.OK).drain()
		}
	}
	b := with(t, numbered(9)...)
	for _, i := range []int{4, 7, 0, 5, 1, 1, 2, 1, 0} {
		b.take(i, 3)
	}
	b.takeNone(0, 3)
}

// P16.2: messages of each kind, in each version, also another one than the frame's: what it hasn't is left out.
func TestTakeInEachVersion(t *testing.T) {
	for _, m := range ofEachKind(t) {
		m.Must = 0
		for put := 1; put <= 3; put++ {
			for version := 1; version <= 3; version++ {
				fresh(t).put(m, put, put, api.OK).takeIs(0, version, projected(t, min(put, version), m))
			}
		}
	}
}

// P16.2: what is critical, and from a later version, is refused: it is no message in that one; it is taken out all the same.
func TestTakeCritical(t *testing.T) {
	for kind := 1; kind <= 9; kind++ {
		for _, m := range []msg.Msg{{Kind: kind, Must: 1}, full(kind, true), most(t, kind)} {
			other := to(1, "other")
			with(t, m, other, m).takeNone(0, 1).takeNone(1, 2).takeIs(0, 3, other)
			with(t, other, m).takeIs(1, 3, m).takeIs(0, 1, other)
		}
	}
}

// P16.2: in a version that is none it is taken out, and no message.
func TestTakeInNoVersion(t *testing.T) {
	for _, v := range noVersions() {
		l := numbered(3)
		with(t, l...).takeNone(1, v).takeIs(1, 3, l[2]).takeNone(0, v).takeNone(0, v)
	}
}

// P16.2: what is flipped is taken out, and no message; the others stay.
func TestTakeFlipped(t *testing.T) {
	l := numbered(3)
	for i := range l {
		for version := 1; version <= 3; version++ {
			b := with(t, l...).flip(i, 0).takeNone(i, version)
			b.take(0, 3).take(0, 3).takeNone(0, 3)
		}
	}
}

// P16.2: of an i that is none nothing is taken out, dropped, comes twice, or is flipped.
func TestOfNone(t *testing.T) {
	for n := range 5 {
		b := with(t, numbered(n)...)
		for _, i := range append(none(n), none(n+1)...) {
			for version := range 5 {
				b.takeNone(i, version)
			}
			b.drop(i).twice(i)
			for _, bit := range []int{0, 1, 7, 8, 31, 32, 33, mostInt, -1, leastInt} {
				b.flip(i, bit)
			}
		}
		b.drain()
	}
}

// P16.2: the first, one in the midst, and the last are dropped; the others keep their order.
func TestDropEach(t *testing.T) {
	for n := 1; n <= 6; n++ {
		for i := range n {
			b := with(t, numbered(n)...).drop(i)
			b.put(to(99, "new"), 3, 3, api.OK).drain()
		}
	}
	b := with(t, numbered(9)...)
	for _, i := range []int{8, 0, 3, 3, 1} {
		b.drop(i)
	}
	b.drain().drop(0).drop(-1).drop(1)
}

// P16.2: what comes twice is behind all others, as it was: to the same node, in the same version, the same message.
func TestTwiceEach(t *testing.T) {
	for n := 1; n <= 5; n++ {
		l := numbered(n)
		for i, m := range l {
			with(t, l...).twice(i).takeIs(n, 3, m).drain()
			with(t, l...).twice(i).put(to(99, "new"), 3, 3, api.OK).drain()
			with(t, l...).twice(i).drop(i).takeIs(n-1, 3, m).drain()
		}
	}
	for version := 1; version <= 3; version++ {
		m := full(4, false)
		b := fresh(t).put(to(0, "ahead"), 3, 3, api.OK).put(m, version, 3, api.OK).put(to(5, "behind"), 3, 3, api.OK).twice(1)
		b.checkAt(3, m.To, version)
		b.takeIs(3, 3, projected(t, version, m)).drain()
	}
}

// P16.2: one comes as often as it is asked for, and so does what came by Twice.
func TestTwiceOften(t *testing.T) {
	m := full(2, true)
	b := with(t, m)
	for i := range 20 {
		b.twice(0).twice(i)
	}
	for i := 40; i >= 0; i-- {
		b.takeIs(i/2, 3, m)
	}
	b.takeNone(0, 3)
}

// P16.2: what is done to one of two doesn't change the other: it is flipped, taken, dropped, whichever of them it is.
func TestTwiceAreTwo(t *testing.T) {
	m := full(6, false)
	for one := range 2 {
		with(t, m).twice(0).flip(one, 40).takeIs(1-one, 3, m).takeNone(0, 3)
		with(t, m).twice(0).flip(one, 40).takeNone(one, 3).takeIs(0, 3, m)
		with(t, m).twice(0).drop(one).takeIs(0, 3, m)
		with(t, m).twice(0).takeIs(one, 3, m).takeIs(0, 3, m)
		with(t, m).twice(0).flip(0, 3).flip(1, 4).flip(one, 3+one).takeIs(one, 3, m).takeNone(0, 3)
	}
}
