package wire_test

import (
	"strings"
	"testing"

	"isogloss/api"
	"isogloss/crc"
	"isogloss/msg"
	"isogloss/wire"
)

// ofLengths are messages whose bytes are one, a few, many, and all there may be.
func ofLengths(t *testing.T) []msg.Msg {
	t.Helper()
	return []msg.Msg{{Kind: 1}, {Kind: 9, Key: "a"}, full(3, false), full(5, true), to(4, strings.Repeat("k", 300)), most(t, 7)}
}

// bitsToAsk are the bits of a frame that are asked: all of a short one; of a long one those at its ends, and some between.
func bitsToAsk(bits int) []int {
	var l []int
	for bit := range bits {
		if bits < 3000 || bit < 100 || bit >= bits-100 || bit%37 == 0 {
			l = append(l, bit)
		}
	}
	return l
}

// P16.2, P16.3: each bit behind the first four bytes: what is flipped isn't taken as a message; flipped back it is.
func TestFlipEachBit(t *testing.T) {
	for _, m := range ofLengths(t) {
		b := fresh(t)
		for _, bit := range bitsToAsk(bitsOf(t, m, 3)) {
			b.put(m, 3, 3, api.OK).flip(0, bit).takeNone(0, 3)
			b.put(m, 3, 3, api.OK).flip(0, bit).flip(0, bit).takeIs(0, 3, m)
		}
	}
}

// P16.2: the number of a bit goes around behind the last one, up to the greatest int.
func TestFlipGoesAround(t *testing.T) {
	for _, m := range ofLengths(t) {
		bits := bitsOf(t, m, 3)
		b := fresh(t)
		for _, bit := range []int{0, 1, 7, 8, bits / 2, bits - 8, bits - 1} {
			for _, rounds := range []int{1, 2, 3, 1000, 1 << 40} {
				b.put(m, 3, 3, api.OK).flip(0, bit).flip(0, bit+rounds*bits).takeIs(0, 3, m)
				b.put(m, 3, 3, api.OK).flip(0, bit+rounds*bits).flip(0, bit).takeIs(0, 3, m)
				b.put(m, 3, 3, api.OK).flip(0, bit).flip(0, bit+rounds*bits+1).flip(0, bit+rounds*bits-1).takeNone(0, 3)
			}
		}
		for i := range 3 {
			b.put(m, 3, 3, api.OK).flip(0, mostInt-i).takeNone(0, 3)
			b.put(m, 3, 3, api.OK).flip(0, mostInt-i).flip(0, (mostInt-i)%bits).takeIs(0, 3, m)
		}
	}
}

// P16.2: below 0 nothing is flipped, nor flipped back.
func TestFlipBelowZero(t *testing.T) {
	for _, m := range ofLengths(t) {
		bits := bitsOf(t, m, 3)
		b := fresh(t)
		for _, bit := range []int{-1, -2, -7, -8, -32, -bits, -bits - 1, 1 - bits, leastInt, leastInt + 1, -1 << 31, -1 << 32} {
			b.put(m, 3, 3, api.OK).flip(0, bit).takeIs(0, 3, m)
			b.put(m, 3, 3, api.OK).flip(0, 0).flip(0, bit).takeNone(0, 3)
			b.put(m, 3, 3, api.OK).flip(0, 0).flip(0, bit).flip(0, 0).takeIs(0, 3, m)
			b.put(m, 3, 3, api.OK).flip(0, bit).flip(0, bits-1).flip(0, bit).flip(0, bits-1).takeIs(0, 3, m)
		}
	}
}

// P16.2: where a bit is turned already another one isn't; the same one is turned back, and then another one may be.
func TestFlipAtMostOne(t *testing.T) {
	for _, m := range ofLengths(t) {
		bits := bitsOf(t, m, 3)
		b := fresh(t)
		for _, bit := range []int{0, 5, 31, 32, bits - 1} {
			for _, other := range []int{0, 1, 4, 5, 6, 13, 30, 31, 32, 33, bits - 2, bits - 1} {
				if bit == other {
					continue
				}
				b.put(m, 3, 3, api.OK).flip(0, bit).flip(0, other).takeNone(0, 3)
				b.put(m, 3, 3, api.OK).flip(0, bit).flip(0, other).flip(0, other).takeNone(0, 3)
				b.put(m, 3, 3, api.OK).flip(0, bit).flip(0, other).flip(0, bit).takeIs(0, 3, m)
				b.put(m, 3, 3, api.OK).flip(0, bit).flip(0, bit).flip(0, other).takeNone(0, 3)
				b.put(m, 3, 3, api.OK).flip(0, bit).flip(0, bit).flip(0, other).flip(0, bit).flip(0, other).takeIs(0, 3, m)
			}
		}
	}
}

// P16.2: of one that came by Twice of a flipped one another bit isn't turned; the same one turns it back, and the one it came of stays flipped.
func TestFlipOfTwice(t *testing.T) {
	m := full(8, true)
	for _, bit := range []int{0, 1, 31, 32, 100, bitsOf(t, m, 3) - 1} {
		for one := range 2 {
			flipped := func() *both { return with(t, m).flip(0, bit).twice(0) }
			flipped().takeNone(one, 3).takeNone(0, 3)
			flipped().flip(one, bit+1).takeNone(one, 3).takeNone(0, 3)
			flipped().flip(one, bit+1).flip(one, bit+1).takeNone(0, 3).takeNone(0, 3)
			flipped().flip(one, bit).takeIs(one, 3, m).takeNone(0, 3)
			flipped().flip(one, bit).takeNone(1-one, 3).takeIs(0, 3, m)
			flipped().flip(one, bit+1).flip(one, bit).takeIs(one, 3, m).takeNone(0, 3)
			flipped().flip(one, bit).flip(one, bit+1).takeNone(one, 3).takeNone(0, 3)
			flipped().flip(one, bit).flip(1-one, bit).takeIs(one, 3, m).takeIs(0, 3, m)
			flipped().flip(one, bit).twice(one).takeIs(2, 3, m).takeIs(one, 3, m).takeNone(0, 3)
			flipped().twice(1).flip(2, bit).takeIs(2, 3, m).takeNone(one, 3).takeNone(0, 3)
		}
	}
}

// P16.2: of some that are on their way the one that is named is flipped, also where others ahead of it were taken out.
func TestFlipOneOfSome(t *testing.T) {
	l := numbered(4)
	for i := range l {
		with(t, l...).flip(i, 17).drain()
		with(t, l...).flip(i, 17).drop(0).drain()
		with(t, l...).drop(0).flip(i, 17).flip(i, 18).drain()
		with(t, l...).flip(i, 17).drop(3).put(l[0], 3, 3, api.OK).flip(3, 18).flip(3, 17).drain()
		with(t, l...).flip(i, 17).take(1, 3).flip(1, 17).flip(2, 17).drain()
	}
}

// P16.2: what is taken out leaves nothing behind it: what comes in its place isn't flipped.
func TestFlippedIsGone(t *testing.T) {
	m, other := full(1, false), to(3, "other")
	with(t, m).flip(0, 9).drop(0).put(other, 3, 3, api.OK).takeIs(0, 3, other)
	with(t, m).flip(0, 9).takeNone(0, 3).put(other, 3, 3, api.OK).flip(0, 8).flip(0, 8).takeIs(0, 3, other)
	with(t, m, m).flip(1, 9).drop(1).twice(0).takeIs(1, 3, m).takeIs(0, 3, m)
}

// blind is a net whose sums are the same of all payloads of one length, of four bytes at least: damage of a payload isn't told.
func blind(t *testing.T, m msg.Msg) *wire.Net {
	t.Helper()
	n := wire.New(crc.Table{})
	if e := n.Put(m, 3, 3); e != api.OK {
		t.Fatalf("error %d", e)
	}
	return n
}

// P16.2: bit 0 is the lowest one of the first byte behind four: where sums don't tell, what is taken is the payload with just that bit turned; the sum's own bits still make it none's.
func TestFlipWhichBit(t *testing.T) {
	for _, m := range []msg.Msg{full(3, true), {Kind: 1, Key: "\x00\xff\x55"}, {Kind: 2, Note: strings.Repeat("\x0f", 300)}} {
		payload, _ := msg.Encode(3, m)
		for bit := range 8 * (4 + len(payload)) {
			n := blind(t, m)
			n.Flip(0, bit)
			var want msg.Msg
			e := api.ErrForm
			if place := bit/8 - 4; place >= 0 {
				b := []byte(payload)
				b[place] ^= 1 << (bit % 8)
				want, _, e = msg.Decode(3, string(b))
			}
			if got, ok := n.Take(0, 3); !same(got, want) || ok != (e == api.OK) {
				t.Errorf("bit %d: %s, %t, not %s, error %d", bit, brief(got), ok, brief(want), e)
			}
		}
	}
}

// P16.1: the table is the one that New was handed: nets of others stand beside it, and sums of each are its own.
func TestTables(t *testing.T) {
	m := full(9, false)
	sees, sees2 := wire.New(crc.Make()), wire.New(crc.Make())
	n := blind(t, m)
	sees.Put(m, 3, 3)
	sees2.Put(m, 3, 3)
	last := bitsOf(t, m, 3) - 7 // in the last byte, which is the Hint's
	n.Flip(0, last)
	sees.Flip(0, last)
	if got, ok := sees.Take(0, 3); ok {
		t.Errorf("%s", brief(got))
	}
	if got, ok := sees2.Take(0, 3); !ok || !same(got, m) {
		t.Errorf("%s", brief(got))
	}
	want := m
	want.Hint ^= 2
	if got, ok := n.Take(0, 3); !ok || !same(got, want) {
		t.Errorf("%s", brief(got))
	}
}
