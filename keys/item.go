package keys

import "cmp"

// The first bytes of items that are no Downs. The items are in their order, too.
const (
	ofNil   = 0x10
	ofFalse = 0x20
	ofTrue  = 0x21
	ofInt   = 0x30
	ofUint  = 0x40
	ofText  = 0x50
)

// intZero is the number that an int64 of 0 has, so that those below it have lesser ones.
const intZero = 1 << 63

// item is what is told of an item; of a Down, of what it holds.
type item struct {
	down   bool
	first  byte   // the first of its bytes, were it no Down
	number uint64 // of an int64 and a uint64: what its eight bytes are
	text   string // of a string
}

// tell tells what v is; false of what is no item.
func tell(v any) (item, bool) {
	down, isDown := v.(Down)
	if !isDown {
		return tellPlain(v)
	}
	held, ok := tellPlain(down.Item)
	held.down = true
	return held, ok
}

// tellPlain tells what v is; false of what is no item, and of a Down.
func tellPlain(v any) (item, bool) {
	switch v := v.(type) {
	case nil:
		return item{first: ofNil}, true
	case bool:
		if v {
			return item{first: ofTrue}, true
		}
		return item{first: ofFalse}, true
	case int64:
		return item{first: ofInt, number: uint64(v) + intZero}, true
	case uint64:
		return item{first: ofUint, number: v}, true
	case string:
		return item{first: ofText, text: v}, true
	}
	return item{}, false
}

// value is the value that was told.
func (it item) value() any {
	if it.down {
		return Down{Item: it.plainValue()}
	}
	return it.plainValue()
}

// plainValue is the value that was told; of a Down, what it holds.
func (it item) plainValue() any {
	switch it.first {
	case ofFalse:
		return false
	case ofTrue:
		return true
	case ofInt:
		return int64(it.number - intZero)
	case ofUint:
		return it.number
	case ofText:
		return it.text
	}
	return nil
}

// isNone tells whether v is no item.
func isNone(v any) bool {
	_, ok := tell(v)
	return !ok
}

// compareValues compares two values that are items.
func compareValues(a, b any) int {
	x, _ := tell(a)
	y, _ := tell(b)
	switch {
	case x.down && y.down:
		return comparePlain(y, x)
	case x.down:
		return 1
	case y.down:
		return -1
	}
	return comparePlain(x, y)
}

// comparePlain compares two items as if they were no Downs.
func comparePlain(x, y item) int {
	return cmp.Or(cmp.Compare(x.first, y.first), cmp.Compare(x.number, y.number), cmp.Compare(x.text, y.text))
}
