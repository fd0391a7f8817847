package frame_test

import (
	"math/rand/v2"
	"strings"
	"testing"

	"isogloss/api"
	"isogloss/frame"
)

// P6.1: a length that isn't from 1 to MaxMessage is wrong as soon as its four bytes are there, and not ahead of it.
func TestWrongLength(t *testing.T) {
	for _, n := range wrongLengths() {
		for cut := range 4 {
			checkStream(t, "a length's beginning", outcome{waiting: cut}, four(n)[:cut])
			checkStream(t, "a length, in two", outcome{broken: true}, four(n)[:cut], four(n)[cut:])
		}
		checkStream(t, "a length alone", outcome{broken: true}, four(n))
		checkStream(t, "a length, byte by byte", outcome{broken: true}, pieces(four(n), 1)...)
		checkStream(t, "a length, and more", outcome{broken: true}, four(n)+framed("a", "b"))
		checkStream(t, "a length behind two", outcome{payloads: []string{"a", "b"}, broken: true}, framed("a", "b")+four(n))
	}
}

// P6.1: a frame of no bytes, or of too many, is wrong, its sum right or not.
func TestFrameOfWrongLength(t *testing.T) {
	checkStream(t, "of none", outcome{broken: true}, slowFrame(""))
	checkStream(t, "of none, with another sum", outcome{broken: true}, four(0)+four(1))
	checkStream(t, "of none, and one", outcome{broken: true}, slowFrame("")+slowFrame("a"))
	for _, p := range tooLong() {
		checkStream(t, "of too many", outcome{broken: true}, slowFrame(p)+slowFrame("a"))
	}
}

// P6.1: a sum is wrong where the frame is whole, and not ahead of it; nothing behind it is told.
func TestWrongSum(t *testing.T) {
	for _, p := range []string{"a", "\x00", "123456789", strings.Repeat("w", api.MaxMessage)} {
		right := slowSum(p)
		turned := right>>24 | right>>8&0xff00 | right<<8&0xff0000 | right<<24
		for _, sum := range []uint32{0, 1, right + 1, right - 1, ^right, right ^ 1, right ^ 1<<31, turned, slowSum(p + "x"), 1<<32 - 1} {
			bad := four(uint32(len(p))) + four(sum) + p
			checkStream(t, "all but a byte", outcome{waiting: len(bad) - 1}, bad[:len(bad)-1])
			checkStream(t, "a sum", outcome{broken: true}, bad)
			checkStream(t, "a sum, and more", outcome{broken: true}, bad+framed("b", "c"))
			checkStream(t, "a sum between", outcome{payloads: []string{"x", "y"}, broken: true}, framed("x", "y")+bad+framed("b", "c"))
			checkStream(t, "its last byte alone", outcome{payloads: []string{"x"}, broken: true}, slowFrame("x")+bad[:len(bad)-1], bad[len(bad)-1:])
		}
	}
}

// P6.1: a frame of which one byte is another one isn't told, nor what is behind it: each byte, and each other one.
func TestEachByteAnother(t *testing.T) {
	for _, p := range []string{"a", "\x00\x00", "payload"} {
		f := []byte(slowFrame(p))
		behind := slowFrame("behind") + slowFrame("it")
		for i := range f {
			for turn := 1; turn < 256; turn++ {
				f[i] ^= byte(turn)
				bad := string(f)
				f[i] ^= byte(turn)
				checkStream(t, "alone", slowSplit(bad), bad)
				checkStream(t, "with more", slowSplit(bad+behind), bad+behind)
				checkStream(t, "between", slowSplit(slowFrame("x")+bad+behind), slowFrame("x")+bad+behind)
				if got := tell(t, fed(bad, behind)); len(got) != 0 {
					t.Errorf("told %x of %x, whose byte %d is another one", briefly(got), bad, i)
				}
			}
		}
	}
}

// P6.1: so of each byte of one that has as many as may be.
func TestEachByteAnotherOfTheLongest(t *testing.T) {
	p := randomText(rand.New(rand.NewPCG(6, 2)), api.MaxMessage, 256)
	f := []byte(slowFrame(p))
	for i := range f {
		for _, turn := range []byte{1, 0x80} {
			f[i] ^= turn
			bad := string(f)
			f[i] ^= turn
			checkStream(t, "the longest", slowSplit(bad), bad)
			if got := tell(t, fed(bad)); len(got) != 0 {
				t.Errorf("told %x of the longest frame, its byte %d another one", briefly(got), i)
			}
		}
	}
}

// P6.1: a splitter is broken as soon as a wrong frame was reached, while payloads ahead of it wait to be told one by one.
func TestBrokenWhileOthersWait(t *testing.T) {
	for _, bad := range []string{four(0), four(4001), "\x00\x00\x00\x01\xc1\xd0\x43\x31a", "\x00\x00\x00\x01\xc1\xd0\x43\x30b"} {
		s := fed(framed("one", "two", "three"))
		checkState(t, "ahead of it", s, false, 0)
		s.Feed(bad[:len(bad)-1])
		checkState(t, "its beginning", s, false, len(bad)-1)
		s.Feed(bad[len(bad)-1:] + slowFrame("four"))
		for _, want := range []string{"one", "two", "three"} {
			checkState(t, "some wait", s, true, 0)
			s.Feed(slowFrame("five"))
			checkState(t, "some wait, fed more", s, true, 0)
			if p, ok := s.Next(); p != want || !ok {
				t.Errorf("%q, %v, not %q", p, ok, want)
			}
		}
		checkTold(t, "none waits", s)
		checkStaysBroken(t, "none waits", s)
	}
}

// P6.1: each call ends at a splitter that New didn't make, too.
func TestSplitterOfNone(t *testing.T) {
	var s frame.Splitter
	checkState(t, "of none", &s, false, 0)
	checkTold(t, "of none", &s)
	s.Feed("\x00\x00\x00")
	checkState(t, "of none", &s, false, 3)
	s.Feed("\x00" + slowFrame("a"))
	checkState(t, "of none", &s, true, 0)
	checkStaysBroken(t, "of none", &s)
}
