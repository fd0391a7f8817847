package lz

import "isogloss/prim"

// places tells where four bytes stood last, of those that were passed.
type places map[[least]byte]int

// partsOf is parts that make b. Wherever four bytes stood ahead, as many as go on alike are copied from where they stood last.
func partsOf(b string) string {
	var parts []byte
	last := places{}
	own, at := 0, 0 // where the part's own bytes begin, and what is looked for
	for at+least <= len(b) {
		n := 1
		if from, ok := last[fourAt(b, at)]; ok {
			n = alike(b, from, at)
			parts = append(parts, prim.Text(b[own:at])...)
			parts = append(parts, copyOf(at-from, n)...)
			own = at + n
		}
		last.pass(b, at, at+n)
		at += n
	}
	if own < len(b) {
		parts = append(parts, prim.Text(b[own:])...)
	}
	return string(parts)
}

// pass notes what stands at each place from from on, and ahead of to.
func (p places) pass(b string, from, to int) {
	for i := from; i < to && i+least <= len(b); i++ {
		p[fourAt(b, i)] = i
	}
}

// fourAt is the four bytes that stand there.
func fourAt(b string, at int) [least]byte {
	return [least]byte{b[at], b[at+1], b[at+2], b[at+3]}
}

// alike is how many bytes are the same from from on as from at on; those from from on may go on past at.
func alike(b string, from, at int) int {
	n := 0
	for at+n < len(b) && b[from+n] == b[at+n] {
		n++
	}
	return n
}

// copyOf is a copy's distance and length.
func copyOf(distance, length int) string {
	return prim.Uint(uint64(distance)) + prim.Uint(uint64(length))
}
