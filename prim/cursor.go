package prim

// Cursor stands in bytes, and takes what comes next; once that isn't there, or isn't so, it is bad.
type Cursor struct {
	rest string
	bad  bool
}

// New is a cursor ahead of all bytes of s.
func New(s string) *Cursor {
	return &Cursor{rest: s}
}

// Uint takes what the function Uint made.
func (c *Cursor) Uint() uint64 {
	if c.bad {
		return 0
	}
	n, size := leadingUint(c.rest)
	if size == 0 {
		c.bad = true
		return 0
	}
	c.take(size)
	return n
}

// Fixed takes what the function Fixed made of a number of size bytes.
func (c *Cursor) Fixed(size int, big bool) uint64 {
	if !isSize(size) {
		c.bad = true
		return 0
	}
	b := c.Bytes(size)
	var n uint64
	for i := range len(b) {
		n |= uint64(b[i]) << place(i, size, big)
	}
	return n
}

// Bytes takes n bytes.
func (c *Cursor) Bytes(n int) string {
	if c.bad || n < 0 || n > len(c.rest) {
		c.bad = true
		return ""
	}
	return c.take(n)
}

// Text takes what the function Text made.
func (c *Cursor) Text() string {
	if c.bad {
		return ""
	}
	n, size := leadingUint(c.rest)
	// The length is held against what is left as it was read: it may be more than an int has.
	if size == 0 || n > uint64(len(c.rest)-size) {
		c.bad = true
		return ""
	}
	c.take(size)
	return c.take(int(n))
}

// Left is how many bytes are left.
func (c *Cursor) Left() int {
	return len(c.rest)
}

// Bad tells whether something wasn't there, or wasn't so.
func (c *Cursor) Bad() bool {
	return c.bad
}

// Done tells whether all was there, and none is left.
func (c *Cursor) Done() bool {
	return !c.bad && len(c.rest) == 0
}

// take goes on by n bytes, which are there.
func (c *Cursor) take(n int) string {
	taken := c.rest[:n]
	c.rest = c.rest[n:]
	return taken
}

// leadingUint is the number with whose bytes s begins, and how many these are; 0, 0, if it begins with no number's.
func leadingUint(s string) (uint64, int) {
	var n uint64
	for i := range len(s) {
		b := s[i]
		if i == lastAt && b > 1 {
			return 0, 0
		}
		n |= uint64(b&lowBits) << uint(bitsEach*i)
		if b&goesOn != 0 {
			continue
		}
		if b == 0 && i > 0 {
			return 0, 0
		}
		return n, i + 1
	}
	return 0, 0
}
