package msg

import "isogloss/api"

const (
	leastKind    = 1
	greatestKind = 9
	greatest     = 1<<31 - 1 // of the numbers that are ints
)

// isRight tells whether m is a message that has bytes.
func isRight(m Msg) bool {
	return leastKind <= m.Kind && m.Kind <= greatestKind && areNumbers(m) && isGoneRight(m) && isShort(m)
}

// areNumbers tells whether the numbers of m that are ints are from 0 to the greatest.
func areNumbers(m Msg) bool {
	for _, n := range []int{m.From, m.To, m.Txn.Node, m.Txn.Life, m.Txn.Seq} {
		if n < 0 || n > greatest {
			return false
		}
	}
	return true
}

// isGoneRight tells whether nothing that is gone has a value.
func isGoneRight(m Msg) bool {
	for _, w := range m.Writes {
		if w.Gone && w.Value != "" {
			return false
		}
	}
	return !m.V.Gone || m.V.Value == ""
}

// isShort tells whether m has no more writes, and no more bytes, than it may have.
func isShort(m Msg) bool {
	// The texts are asked first, so that nothing long is put together only to be counted.
	return len(m.Writes) <= api.MaxWrites && textsLength(m) <= api.MaxMessage && len(bytesOf(api.MaxVersion, m)) <= api.MaxMessage
}

// textsLength is how many bytes all texts of m have.
func textsLength(m Msg) int {
	n := len(m.Key) + len(m.V.Value) + len(m.Note)
	for _, w := range m.Writes {
		n += len(w.Key) + len(w.Value)
	}
	return n
}
