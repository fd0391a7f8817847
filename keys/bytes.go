package keys

import (
	"strings"

	"isogloss/prim"
)

const (
	numberSize = 8          // bytes of a number
	ownZero    = "\x00\xff" // a 00 of a string's own
	textEnd    = "\x00\x00" // what stands behind a string
	downBit    = 0x80       // of the first byte of each Down, and of no other item's
)

// appendItem puts an item's bytes behind b.
func appendItem(b []byte, it item) []byte {
	start := len(b)
	b = append(b, it.first)
	switch it.first {
	case ofInt, ofUint:
		b = append(b, prim.Fixed(it.number, numberSize, true)...)
	case ofText:
		b = append(b, strings.ReplaceAll(it.text, "\x00", ownZero)...)
		b = append(b, textEnd...)
	}
	if it.down {
		turn(b[start:])
	}
	return b
}

// turn turns each byte into 255 less it.
func turn(b []byte) {
	for i := range b {
		b[i] = ^b[i]
	}
}

// takeItem takes an item's bytes; false, if there are none.
func takeItem(c *prim.Cursor) (item, bool) {
	it := item{first: takeByte(c, false)}
	if it.first&downBit != 0 {
		it.down, it.first = true, ^it.first
	}
	switch it.first {
	case ofNil, ofFalse, ofTrue:
	case ofInt, ofUint:
		it.number = takeNumber(c, it.down)
	case ofText:
		text, ok := takeText(c, it.down)
		if !ok {
			return item{}, false
		}
		it.text = text
	default:
		return item{}, false
	}
	return it, !c.Bad()
}

// takeText takes a string's bytes, and what stands behind it; false, if that is missing, or a 00 stands by itself.
func takeText(c *prim.Cursor, down bool) (string, bool) {
	var text []byte
	for c.Left() > 0 {
		b := takeByte(c, down)
		if b == 0 {
			behind := takeByte(c, down)
			if c.Bad() || behind != ownZero[1] && behind != textEnd[1] {
				return "", false
			}
			if behind == textEnd[1] {
				return string(text), true
			}
		}
		text = append(text, b)
	}
	return "", false
}

// takeNumber takes eight bytes, which are turned, if down.
func takeNumber(c *prim.Cursor, down bool) uint64 {
	n := c.Fixed(numberSize, true)
	if down {
		return ^n
	}
	return n
}

// takeByte takes a byte, which is turned, if down.
func takeByte(c *prim.Cursor, down bool) byte {
	b := byte(c.Fixed(1, true))
	if down {
		return ^b
	}
	return b
}
