package wire

const (
	lengthSize = 4 // of a frame's first bytes, which tell how many it has, and are never damaged
	byteBits   = 8
)

// Flip turns a bit of the i-th frame behind its first four bytes, or turns it back; nothing, if another one is turned.
func (n *Net) Flip(i int, bit int) {
	if !n.has(i) || bit < 0 {
		return
	}
	f := &n.way[i]
	bit %= byteBits * (len(f.bytes) - lengthSize)
	if f.turned && f.bit != bit {
		return
	}
	f.bytes = withTurned(f.bytes, lengthSize+bit/byteBits, byte(1)<<(bit%byteBits))
	f.turned = !f.turned
	f.bit = bit
}

// withTurned is b, with these bits of one of its bytes turned.
func withTurned(b string, at int, bits byte) string {
	return b[:at] + string([]byte{b[at] ^ bits}) + b[at+1:]
}
