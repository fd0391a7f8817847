package frame_test

import (
	"strings"
	"testing"

	"isogloss/api"
	"isogloss/crc"
	"isogloss/frame"
)

// P6.1: the chapter's frame is told, once.
func TestNextWrittenOut(t *testing.T) {
	s := fed("\x00\x00\x00\x01\xc1\xd0\x43\x30a")
	checkState(t, "a", s, false, 0)
	checkTold(t, "a", s, "a")
	checkState(t, "a, told", s, false, 0)
}

// P6.1: of no bytes nothing is told; also not, if they are fed.
func TestNextOfNothing(t *testing.T) {
	checkStream(t, "not fed", outcome{})
	checkStream(t, "fed with none", outcome{}, "")
	checkStream(t, "fed with none thrice", outcome{}, "", "", "")
	s := fed("")
	s.Feed(slowFrame("a"))
	checkTold(t, "fed with none, then a", s, "a")
}

// P6.1: what Make made is told, of one byte and of as many as may be.
func TestNextOfWhatMakeMade(t *testing.T) {
	table := crc.Make()
	for _, p := range payloads() {
		checkStream(t, "one frame", outcome{payloads: []string{p}}, mustMake(t, table, p))
	}
}

// P6.1: payloads are told in the order of their frames, the same ones twice, however many wait.
func TestNextInOrder(t *testing.T) {
	l := append(payloads(), "a", "a", "b", "a")
	checkStream(t, "all", outcome{payloads: l}, framed(l...))
	s := frame.New(crc.Make())
	for i, p := range l {
		s.Feed(slowFrame(p))
		checkState(t, "one behind the other", s, false, 0)
		if i%3 == 2 {
			checkTold(t, "three by three", s, l[i-2:i+1]...)
		}
	}
	checkTold(t, "the last ones", s, l[len(l)-len(l)%3:]...)
}

// P6.1: one is told and others wait, while more come.
func TestNextBetweenFeeds(t *testing.T) {
	s := fed(framed("one", "two", "three"))
	next := func(want string) {
		t.Helper()
		if p, ok := s.Next(); p != want || !ok {
			t.Errorf("%q, %v, not %q", p, ok, want)
		}
	}
	next("one")
	fourth := slowFrame("four")
	s.Feed(fourth[:5])
	checkState(t, "five bytes behind three frames", s, false, 5)
	next("two")
	s.Feed(fourth[5:] + framed("five"))
	next("three")
	next("four")
	checkState(t, "one waits", s, false, 0)
	next("five")
	checkTold(t, "all told", s)
	s.Feed(slowFrame("six"))
	next("six")
	checkTold(t, "all told again", s)
}

// P6.1: where a stream ends in a frame, so many bytes of it wait, and those ahead of it are told; what comes behind them ends it.
func TestWaitingAtEveryPlace(t *testing.T) {
	for _, p := range []string{"a", "ab", "123456789", "\x00\x00\x00\x00", strings.Repeat("q", 300), strings.Repeat("z", api.MaxMessage)} {
		f := slowFrame(p)
		for cut := range len(f) {
			checkStream(t, "cut short", outcome{waiting: cut}, f[:cut])
			s := fed(framed("x", "y"), f[:cut])
			checkState(t, "cut short behind two", s, false, cut)
			checkTold(t, "cut short behind two", s, "x", "y")
			checkState(t, "cut short behind two, told", s, false, cut)
			s.Feed(f[cut:])
			checkState(t, "joined", s, false, 0)
			checkTold(t, "joined", s, p)
		}
	}
}

// P6.1: how many bytes wait is told byte by byte, also while payloads wait.
func TestWaitingByteByByte(t *testing.T) {
	s := frame.New(crc.Make())
	for range 3 {
		f := slowFrame("hello")
		for i := range len(f) {
			checkState(t, "ahead of a byte", s, false, i)
			s.Feed(f[i : i+1])
		}
		checkState(t, "whole", s, false, 0)
	}
	checkTold(t, "whole", s, "hello", "hello", "hello")
}

// P6.1: each number of bytes from 1 to MaxMessage is one that waits.
func TestRightLengths(t *testing.T) {
	for n := range uint32(api.MaxMessage) {
		checkStream(t, "a length", outcome{waiting: 4}, four(n+1))
	}
	checkStream(t, "the greatest, and all but one", outcome{waiting: 4007}, four(api.MaxMessage)+strings.Repeat("\x00", 4003))
}

// P6.1: the sums are held against those of the table that was handed on.
func TestSplitterHandsTheTableOn(t *testing.T) {
	tables := append(otherTables(), crc.Make())
	for i, made := range tables {
		f := mustMake(t, made, "a") + mustMake(t, made, "abc")
		for k, split := range tables {
			s := frame.New(split)
			s.Feed(f)
			checkState(t, "of a table", s, i != k, 0)
			if i == k {
				checkTold(t, "of the same table", s, "a", "abc")
			} else {
				checkTold(t, "of another table", s)
			}
		}
	}
}

// P6.1: a table that is changed behind New is the owner's alone.
func TestSplitterTableIsItsOwn(t *testing.T) {
	table := crc.Make()
	s := frame.New(table)
	for i := range table {
		table[i]++
	}
	s.Feed(framed("a", "b"))
	checkTold(t, "its table changed", s, "a", "b")
}

// P6.1: two splitters do not hang on one another, also if one is broken.
func TestTwoSplitters(t *testing.T) {
	table := crc.Make()
	a, b := frame.New(table), frame.New(table)
	one, other := framed("one", "two"), framed("other")
	for i := range len(one) {
		a.Feed(one[i : i+1])
		if i < len(other) {
			b.Feed(other[i : i+1])
		}
	}
	checkTold(t, "the other", b, "other")
	checkTold(t, "the one", a, "one", "two")
	b.Feed(other[:6])
	a.Feed(four(0))
	checkState(t, "the one broken", a, true, 0)
	checkState(t, "the other", b, false, 6)
	b.Feed(other[6:])
	a.Feed(one)
	checkTold(t, "the other", b, "other")
	checkTold(t, "the one broken", a)
	checkStaysBroken(t, "the one broken", a)
	checkState(t, "the other", b, false, 0)
}

// P6.1: what was told stays what it was, whatever comes behind it.
func TestWhatWasToldStays(t *testing.T) {
	s := fed(framed("first", "later"))
	first, _ := s.Next()
	for range 100 {
		s.Feed(framed("XXXXX", "YYYYY"))
	}
	later, _ := s.Next()
	if first != "first" || later != "later" {
		t.Errorf("%q, %q", first, later)
	}
}
