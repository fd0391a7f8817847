package prim_test

import (
	"encoding/binary"
	"math"
	"math/rand/v2"
	"strconv"
	"strings"
	"testing"

	"isogloss/prim"
)

// checkState holds what the cursor tells of itself against what it should.
func checkState(t *testing.T, what string, c *prim.Cursor, left int, bad bool) {
	t.Helper()
	if c.Left() != left || c.Bad() != bad || c.Done() != (!bad && left == 0) {
		t.Errorf("%s: left %d, bad %v, done %v, not %d, %v", what, c.Left(), c.Bad(), c.Done(), left, bad)
	}
}

// checkStaysBad asks a bad cursor for all that it could tell.
func checkStaysBad(t *testing.T, what string, c *prim.Cursor) {
	t.Helper()
	left := c.Left()
	for range 2 {
		if c.Uint() != 0 || c.Text() != "" {
			t.Errorf("%s: bad, but it told a number or a text", what)
		}
		for n := -1; n <= 9; n++ {
			if c.Bytes(n) != "" || c.Fixed(n, true) != 0 || c.Fixed(n, false) != 0 {
				t.Errorf("%s: bad, but it told %d bytes", what, n)
			}
		}
		checkState(t, what, c, left, true)
	}
}

// checkNoNumber holds that no number can be taken of s.
func checkNoNumber(t *testing.T, s string) {
	t.Helper()
	c := prim.New(s)
	if n := c.Uint(); n != 0 {
		t.Errorf("%x: %d", s, n)
	}
	checkState(t, "no number", c, len(s), true)
	checkStaysBad(t, "no number", c)
}

// P1.2: a number that is cut short makes the cursor bad, and is left where it is.
func TestCursorUintCutShort(t *testing.T) {
	checkNoNumber(t, "")
	for _, n := range numbers() {
		s := prim.Uint(n)
		for cut := range len(s) {
			checkNoNumber(t, s[:cut])
		}
	}
}

// P1.2: so does one that ends with 0, or is above 2^64 - 1, whatever is behind it.
func TestCursorUintWrong(t *testing.T) {
	ff9, zero9 := strings.Repeat("\xff", 9), strings.Repeat("\x80", 9)
	for _, s := range []string{
		"\x80\x00", "\xff\x00", "\x80\x80\x00", ff9 + "\x00", zero9 + "\x00",
		ff9 + "\x02", zero9 + "\x02", ff9 + "\x03", ff9 + "\x7f", zero9 + "\x40",
		ff9 + "\x80", ff9 + "\x81", ff9 + "\xff", zero9 + "\x80", zero9 + "\x81",
		strings.Repeat("\x80", 300),
	} {
		for _, behind := range []string{"", "\x00", "\x01", "\x05abcdefghijkl"} {
			checkNoNumber(t, s+behind)
		}
	}
}

// P1.2: of all texts of up to two bytes, and of many of three, just those are numbers that the library's are, as short as can be.
func TestCursorUintOfAllShort(t *testing.T) {
	check := func(s string) {
		n, size := binary.Uvarint([]byte(s))
		if size <= 0 || string(binary.AppendUvarint(nil, n)) != s[:size] {
			n, size = 0, 0
		}
		c := prim.New(s)
		if got := c.Uint(); got != n {
			t.Errorf("%x: %d, not %d", s, got, n)
		}
		checkState(t, "short", c, len(s)-size, size == 0)
	}
	check("")
	for a := range 256 {
		check(string([]byte{byte(a)}))
		for b := range 256 {
			check(string([]byte{byte(a), byte(b)}))
			for _, d := range []byte{0, 1, 0x7f, 0x80, 0xff} {
				check(string([]byte{byte(a), byte(b), d}))
			}
		}
	}
}

// P1.2: Uint of the edges, with bytes behind that aren't taken.
func TestCursorUintEdges(t *testing.T) {
	for _, n := range []uint64{0, 1, 127, 128, 1<<14 - 1, 1 << 14, 1<<63 - 1, 1 << 63, 1<<64 - 1} {
		c := prim.New(prim.Uint(n) + "\x00\x80")
		if got := c.Uint(); got != n {
			t.Errorf("%d, not %d", got, n)
		}
		checkState(t, "number", c, 2, false)
	}
}

// P1.2: Fixed takes so many bytes, in both orders.
func TestCursorFixed(t *testing.T) {
	const s = "\x01\x82\x03\x04\x05\xf6\x07\x08z"
	big := []uint64{0x01, 0x0182, 0x018203, 0x01820304, 0x0182030405, 0x0182030405f6, 0x0182030405f607, 0x0182030405f60708}
	little := []uint64{0x01, 0x8201, 0x038201, 0x04038201, 0x0504038201, 0xf60504038201, 0x07f60504038201, 0x0807f60504038201}
	for size := 1; size <= 8; size++ {
		c, d := prim.New(s), prim.New(s)
		if got := c.Fixed(size, true); got != big[size-1] {
			t.Errorf("size %d, big: %x", size, got)
		}
		if got := d.Fixed(size, false); got != little[size-1] {
			t.Errorf("size %d, little: %x", size, got)
		}
		checkState(t, "big", c, len(s)-size, false)
		checkState(t, "little", d, len(s)-size, false)
	}
}

// P1.2: Fixed of fewer bytes than its size, and of other sizes, is bad.
func TestCursorFixedWrong(t *testing.T) {
	for _, big := range []bool{false, true} {
		for size := 1; size <= 8; size++ {
			for have := range size {
				c := prim.New("\xff\xff\xff\xff\xff\xff\xff\xff"[:have])
				if got := c.Fixed(size, big); got != 0 {
					t.Errorf("size %d of %d bytes: %x", size, have, got)
				}
				checkState(t, "cut short", c, have, true)
				checkStaysBad(t, "cut short", c)
			}
		}
		for _, size := range wrongSizes() {
			for _, s := range []string{"", "\x01", strings.Repeat("\x01", 70)} {
				c := prim.New(s)
				if got := c.Fixed(size, big); got != 0 {
					t.Errorf("size %d: %x", size, got)
				}
				checkState(t, "size", c, len(s), true)
				checkStaysBad(t, "size", c)
			}
		}
	}
}

// P1.2: Bytes takes so many, none too, up to all that are left.
func TestCursorBytes(t *testing.T) {
	const s = "ab\x00\xffä"
	for n := range len(s) + 1 {
		c := prim.New(s)
		if got := c.Bytes(n); got != s[:n] {
			t.Errorf("Bytes(%d): %x", n, got)
		}
		checkState(t, "bytes", c, len(s)-n, false)
		if got := c.Bytes(0); got != "" {
			t.Errorf("none: %x", got)
		}
		checkState(t, "none", c, len(s)-n, false)
		if got := c.Bytes(len(s) - n); got != s[n:] {
			t.Errorf("the others: %x", got)
		}
		checkState(t, "the others", c, 0, false)
	}
}

// P1.2: more bytes than are left, and fewer than none, are bad.
func TestCursorBytesWrong(t *testing.T) {
	for _, s := range []string{"", "a", "abc"} {
		for _, n := range []int{-1, -2, math.MinInt, len(s) + 1, len(s) + 2, 1 << 32, math.MaxInt} {
			c := prim.New(s)
			if got := c.Bytes(n); got != "" {
				t.Errorf("Bytes(%d) of %q: %x", n, s, got)
			}
			checkState(t, "bytes", c, len(s), true)
			checkStaysBad(t, "bytes", c)
		}
	}
}

// P1.2: Text takes what Text made, and leaves what is behind it.
func TestCursorText(t *testing.T) {
	for _, s := range texts() {
		for _, behind := range []string{"", "\x00", "\x01z", "\xff"} {
			c := prim.New(prim.Text(s) + behind)
			if got := c.Text(); got != s {
				t.Errorf("%d bytes, not %d", len(got), len(s))
			}
			checkState(t, "text", c, len(behind), false)
		}
	}
}

// P1.2: a text that is cut short, or whose length is none, is bad, and nothing of it is taken.
func TestCursorTextWrong(t *testing.T) {
	l := []string{"", "\x01", "\x02a", "\x80", "\x80\x00", "\x81\x00a", "\x80\x01" + strings.Repeat("a", 127)}
	for _, n := range []uint64{4, 1<<31 - 1, 1 << 31, 1 << 32, 1<<32 + 1, 1<<63 - 1, 1 << 63, 1<<63 + 1, 1<<64 - 1} {
		l = append(l, prim.Uint(n), prim.Uint(n)+"abc")
	}
	l = append(l, strings.Repeat("\xff", 9)+"\x02abc")
	for _, s := range l {
		c := prim.New(s)
		if got := c.Text(); got != "" {
			t.Errorf("%x: %x", s, got)
		}
		checkState(t, "text", c, len(s), true)
		checkStaysBad(t, "text", c)
	}
}

// P1.2: Left, Bad and Done, from a new cursor on till it is done, and till it is bad behind that.
func TestCursorGoesOn(t *testing.T) {
	checkState(t, "of nothing", prim.New(""), 0, false)
	c := prim.New("\xac\x02\x01\x02\x02ab\xffz")
	checkState(t, "new", c, 9, false)
	if n := c.Uint(); n != 300 {
		t.Error(n)
	}
	checkState(t, "behind a number", c, 7, false)
	if n := c.Fixed(2, true); n != 0x0102 {
		t.Error(n)
	}
	checkState(t, "behind two bytes", c, 5, false)
	if s := c.Text(); s != "ab" {
		t.Errorf("%x", s)
	}
	checkState(t, "behind a text", c, 2, false)
	if s := c.Bytes(2); s != "\xffz" {
		t.Errorf("%x", s)
	}
	checkState(t, "at the end", c, 0, false)
	if n := c.Uint(); n != 0 {
		t.Error(n)
	}
	checkState(t, "behind the end", c, 0, true)
	checkStaysBad(t, "behind the end", c)
}

// P1.2: a cursor that is bad tells nothing of what is there, and would be taken of another one.
func TestBadCursorTakesNothing(t *testing.T) {
	for _, s := range []string{"\x01\x01\x01\x01\x01\x01\x01\x01\x01\x01\x01\x01", "\x03abcdefghijkl", "\xac\x02\x01a"} {
		for i, spoil := range []func(c *prim.Cursor){
			func(c *prim.Cursor) { c.Bytes(-1) },
			func(c *prim.Cursor) { c.Bytes(len(s) + 1) },
			func(c *prim.Cursor) { c.Fixed(0, true) },
			func(c *prim.Cursor) { c.Fixed(9, false) },
		} {
			c := prim.New(s)
			spoil(c)
			checkState(t, strconv.Itoa(i), c, len(s), true)
			checkStaysBad(t, strconv.Itoa(i), c)
		}
	}
}

// P1.2, R7: cursors of the same bytes don't hang on one another.
func TestCursorsAreTheirOwn(t *testing.T) {
	const s = "\x01a\x05"
	c, d := prim.New(s), prim.New(s)
	c.Bytes(-1)
	checkState(t, "bad", c, 3, true)
	checkState(t, "other", d, 3, false)
	if got := d.Text(); got != "a" || c.Left() != 3 {
		t.Errorf("%x, %d left", got, c.Left())
	}
}

// piece is something that is made, and taken again.
type piece struct {
	made string
	take func(t *testing.T, c *prim.Cursor)
}

// anyPiece makes a number, a zigzag, a fixed one, a text or bytes.
func anyPiece(r *rand.Rand) piece {
	n := r.Uint64() >> r.IntN(64)
	size, big := 1+r.IntN(8), r.IntN(2) == 0
	s := strings.Repeat(string([]byte{byte(n)}), r.IntN(200))
	switch r.IntN(5) {
	case 0:
		return piece{prim.Uint(n), func(t *testing.T, c *prim.Cursor) { checkSame(t, c.Uint(), n) }}
	case 1:
		return piece{prim.Uint(prim.Zig(int64(n))), func(t *testing.T, c *prim.Cursor) { checkSame(t, prim.Zag(c.Uint()), int64(n)) }}
	case 2:
		return piece{prim.Fixed(n, size, big), func(t *testing.T, c *prim.Cursor) {
			checkSame(t, c.Fixed(size, big), n&(math.MaxUint64>>(64-8*size)))
		}}
	case 3:
		return piece{prim.Text(s), func(t *testing.T, c *prim.Cursor) { checkSame(t, c.Text(), s) }}
	}
	return piece{s, func(t *testing.T, c *prim.Cursor) { checkSame(t, c.Bytes(len(s)), s) }}
}

func checkSame[T comparable](t *testing.T, got, want T) {
	t.Helper()
	if got != want {
		t.Errorf("%v, not %v", got, want)
	}
}

// P1.3: what was made, piece behind piece, is taken as it was, and no more.
func TestMadeIsTaken(t *testing.T) {
	r := rand.New(rand.NewPCG(3, 4))
	for range 1000 {
		var l []piece
		all := ""
		for range r.IntN(12) {
			p := anyPiece(r)
			l = append(l, p)
			all += p.made
		}
		c := prim.New(all)
		left := len(all)
		for _, p := range l {
			p.take(t, c)
			left -= len(p.made)
			checkState(t, "piece", c, left, false)
		}
		if !c.Done() {
			t.Error("not done")
		}
	}
}

// P1.3: numbers that were made are taken as they were.
func TestNumbersComeAgain(t *testing.T) {
	for _, n := range numbers() {
		c := prim.New(prim.Uint(n) + prim.Fixed(n, 8, true) + prim.Fixed(n, 8, false) + prim.Uint(prim.Zig(int64(n))))
		checkSame(t, c.Uint(), n)
		checkSame(t, c.Fixed(8, true), n)
		checkSame(t, c.Fixed(8, false), n)
		checkSame(t, prim.Zag(c.Uint()), int64(n))
		checkState(t, "numbers", c, 0, false)
	}
}

// anyBytes makes bytes of which many begin a number, or a short text.
func anyBytes(r *rand.Rand) string {
	b := make([]byte, r.IntN(14))
	for i := range b {
		b[i] = []byte{0, 1, 2, 3, 0x7f, 0x80, 0x81, 0xff, byte(r.IntN(256))}[r.IntN(9)]
	}
	return string(b)
}

// takeAndMake takes something of the cursor, and makes it again.
func takeAndMake(r *rand.Rand, c *prim.Cursor) string {
	size, big := r.IntN(11)-1, r.IntN(2) == 0
	switch r.IntN(4) {
	case 0:
		return prim.Uint(c.Uint())
	case 1:
		return prim.Fixed(c.Fixed(size, big), size, big)
	case 2:
		return prim.Text(c.Text())
	}
	return c.Bytes(size)
}

// P1.3: what is taken of any bytes, made again, are the bytes that were taken; nothing is taken where it is bad.
func TestTakenIsMadeAgain(t *testing.T) {
	r := rand.New(rand.NewPCG(5, 6))
	for range 20000 {
		s := anyBytes(r)
		c := prim.New(s)
		for range 6 {
			at := len(s) - c.Left()
			made := takeAndMake(r, c)
			taken := s[at : len(s)-c.Left()]
			if c.Bad() {
				made = ""
			}
			if made != taken {
				t.Errorf("of %x at %d: %x, made again %x", s, at, taken, made)
			}
		}
	}
}
