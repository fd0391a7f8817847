package lz

import (
	"strings"

	"isogloss/prim"
)

// takeBytes takes all bytes, as they stand there; false, if they don't.
func takeBytes(c *prim.Cursor, all int) (string, bool) {
	switch c.Bytes(1) {
	case asTheyAre:
		b := c.Bytes(all)
		return strings.Clone(b), !c.Bad()
	case inParts:
		return takeParts(c, all)
	}
	return "", false
}

// takeParts takes parts, till they have made all bytes; false, if they don't.
func takeParts(c *prim.Cursor, all int) (string, bool) {
	b, ok := takePart(c, nil, all)
	for ok && len(b) < all {
		b, ok = takePart(c, b, all)
	}
	return string(b), ok
}

// takePart takes a part, and puts what it makes behind b; false, if there is none, or it makes more than all bytes.
func takePart(c *prim.Cursor, b []byte, all int) ([]byte, bool) {
	own := c.Text()
	if c.Bad() || len(own) > all-len(b) {
		return nil, false
	}
	b = append(b, own...)
	if len(b) == all {
		return b, true
	}
	distance := c.Uint()
	length := c.Uint()
	// Where one of them wasn't there it is 0, which neither may be.
	if distance < 1 || distance > uint64(len(b)) || length < least || length > uint64(all-len(b)) {
		return nil, false
	}
	return appendCopy(b, int(distance), int(length)), true
}

// appendCopy puts a copy behind b. It goes byte by byte, as it may copy what it made.
func appendCopy(b []byte, distance, length int) []byte {
	for range length {
		b = append(b, b[len(b)-distance])
	}
	return b
}
