// Package prim is layer 1: numbers as bytes, and bytes taken one by one. See shared/doc/01-prim.md.
package prim

const (
	bitsEach = 7    // of a number, in each of its bytes
	lowBits  = 0x7f // those bits of a byte
	goesOn   = 0x80 // the bit of a byte that isn't a number's last one
	lastAt   = 9    // where the tenth byte stands, behind 63 bits: it has room for one more
)

// Uint is a number's bytes.
func Uint(n uint64) string {
	var b []byte
	for n > lowBits {
		b = append(b, byte(n)|goesOn)
		n >>= bitsEach
	}
	return string(append(b, byte(n)))
}

// Zig counts 0, -1, 1, -2, .. as 0, 1, 2, 3, ..
func Zig(n int64) uint64 {
	twice := uint64(n) << 1
	if n < 0 {
		return ^twice
	}
	return twice
}

// Zag is the number that Zig counts as n.
func Zag(n uint64) int64 {
	half := int64(n >> 1)
	if n&1 == 1 {
		return ^half
	}
	return half
}

// Fixed is the lowest size bytes of n, the greatest first, if big.
func Fixed(n uint64, size int, big bool) string {
	if !isSize(size) {
		return ""
	}
	b := make([]byte, size)
	for i := range b {
		b[i] = byte(n >> place(i, size, big))
	}
	return string(b)
}

// Text is s, behind Uint of its length.
func Text(s string) string {
	return Uint(uint64(len(s))) + s
}

// isSize tells whether a number of so many bytes fits in 64 bits.
func isSize(size int) bool {
	return 1 <= size && size <= 8
}

// place is how many bits stand below those of the i-th of size bytes.
func place(i, size int, big bool) uint {
	if big {
		i = size - 1 - i
	}
	return uint(8 * i)
}
