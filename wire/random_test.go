package wire_test

import (
	"math/rand/v2"
	"strings"
	"testing"

	"isogloss/api"
	"isogloss/crc"
	"isogloss/msg"
	"isogloss/wire"
)

// randomMsg is a message, which is seldom wrong.
func randomMsg(r *rand.Rand) msg.Msg {
	m := to(r.IntN(6), strings.Repeat("k", r.IntN(5)))
	m.From, m.Txn, m.Found = r.IntN(6), api.Txn{Node: r.IntN(3), Life: r.IntN(3), Seq: r.IntN(300)}, r.IntN(2) == 0
	m.A, m.B, m.Hint = r.Uint64()>>r.IntN(64), r.Uint64()>>r.IntN(64), uint64(r.IntN(3))
	m.V = api.Version{Time: uint64(r.IntN(300)), Value: strings.Repeat("v", r.IntN(30))}
	m.Writes = writes(r.IntN(10))
	if r.IntN(3) == 0 {
		m.Note = "note"
	}
	if r.IntN(6) == 0 {
		m.Must = r.Uint64()
	}
	if r.IntN(12) == 0 {
		m.Kind = r.IntN(12) - 1
	}
	return m
}

// step does something with both, at random; it is seldom that what it names isn't there.
func (b *both) step(r *rand.Rand) {
	b.t.Helper()
	i := r.IntN(len(b.slow.letters)+2) - r.IntN(2)
	switch r.IntN(12) {
	case 0, 1, 2, 3:
		m, from, to := randomMsg(r), 4-r.IntN(41)/10, 4-r.IntN(41)/10
		e := b.slow.put(m, from, to)
		if got := b.fast.Put(m, from, to); got != e {
			b.t.Errorf("Put(%s, %d, %d): error %d, not %d", brief(m), from, to, got, e)
		}
		b.check()
	case 4, 5:
		b.take(i, 3-r.IntN(31)/10)
	case 6:
		b.drop(i)
	case 7, 8:
		b.twice(i)
	default:
		b.flip(i, r.IntN(12)-1+r.IntN(2)*r.IntN(200))
		if r.IntN(40) == 0 {
			b.flip(i, r.Int())
		}
	}
}

// P16.1, P16.2, P16.3: many calls at random, as the slow net has it.
func TestRandom(t *testing.T) {
	for seed := range uint64(200) {
		r := rand.New(rand.NewPCG(16, seed))
		b := fresh(t)
		for range 150 {
			b.step(r)
			for len(b.slow.letters) > 30 {
				b.drop(r.IntN(len(b.slow.letters)))
			}
		}
		b.drain()
		if t.Failed() {
			t.Fatalf("in the round %d", seed)
		}
	}
}

// R7: two nets don't hang on one another, whichever is asked.
func TestTwoNets(t *testing.T) {
	for seed := range uint64(30) {
		r := rand.New(rand.NewPCG(17, seed))
		one, other := fresh(t), fresh(t)
		for range 100 {
			if r.IntN(2) == 0 {
				one.step(r)
			} else {
				other.step(r)
			}
			one.check()
			other.check()
		}
		one.drain()
		other.drain()
	}
}

// R1: no call panics, of whatever arguments, also of a net that no New made; that one is as one of a table of zeros.
func TestWhatever(t *testing.T) {
	numbers := append(noVersions(), 0, 1, 2, 3, 31, 32, 39, 40, 41, 100)
	for _, n := range []*wire.Net{new(wire.Net), {}, wire.New(crc.Table{}), wire.New(crc.Make())} {
		for _, i := range numbers {
			n.Drop(i)
			n.Twice(i)
			n.Take(i, i)
			for _, k := range numbers {
				n.Put(msg.Msg{Kind: 1 + i&7, To: k & 7, Note: "note"}, k, 3)
				n.Put(msg.Msg{Kind: i, To: k}, i, k)
				n.Flip(i, k)
				n.Take(k, i)
				n.To(k)
				n.Version(i)
			}
			n.Twice(0)
		}
		for n.Len() > 0 {
			n.Flip(0, mostInt)
			n.Take(n.Len()-1, 3)
		}
	}
	for _, n := range []*wire.Net{new(wire.Net), wire.New(crc.Table{})} {
		m := full(2, true)
		n.Put(m, 3, 3)
		n.Twice(0)
		n.Flip(1, 3)
		if got, ok := n.Take(0, 3); !ok || !same(got, m) {
			t.Errorf("%s, %t", brief(got), ok)
		}
		if got, ok := n.Take(0, 3); ok {
			t.Errorf("%s", brief(got))
		}
	}
}

// P16.1, R1: a message with far too much is refused, and nothing is on its way.
func TestFarTooMuch(t *testing.T) {
	b := fresh(t)
	for _, m := range []msg.Msg{
		{Kind: 1, Key: strings.Repeat("k", 1<<20)}, {Kind: 1, Note: strings.Repeat("n", 1<<20)}, {Kind: 1, Writes: make([]api.Write, 1<<16)},
		{Kind: 1, V: api.Version{Value: strings.Repeat("v", 1<<20)}},
	} {
		for version := 1; version <= 3; version++ {
			b.put(m, version, 3, api.ErrArg)
		}
	}
	b.takeNone(0, 3)
}

// P16.1, P16.2: many are on their way, and are taken from the midst.
func TestMany(t *testing.T) {
	n := wire.New(crc.Make())
	for i := range 20000 {
		if e := n.Put(to(i, ""), 3, 3); e != api.OK {
			t.Fatalf("error %d", e)
		}
	}
	for i := range 20000 {
		if n.To(0) != i || n.Len() != 20000-i {
			t.Fatalf("to %d, and %d are there", n.To(0), n.Len())
		}
		n.Drop(0)
	}
}
