package msg

import (
	"strings"

	"isogloss/api"
	"isogloss/prim"
)

// taken is what was taken of a message's bytes.
type taken struct {
	m        Msg
	leftOut  int  // how many fields the version hasn't
	critical bool // whether one of those is critical
}

// reader takes what a field has, and puts it into m; false, if it is zero, or told by no field's bytes.
type reader func(m *Msg, c *prim.Cursor) bool

// readers are of each tag what takes its field.
func readers() map[uint64]reader {
	return map[uint64]reader{
		tagFrom: func(m *Msg, c *prim.Cursor) bool {
			m.From = takeInt(c)
			return m.From != 0
		},
		tagTo: func(m *Msg, c *prim.Cursor) bool {
			m.To = takeInt(c)
			return m.To != 0
		},
		tagTxn: func(m *Msg, c *prim.Cursor) bool {
			m.Txn = takeTxn(c)
			return m.Txn != api.Txn{}
		},
		tagA: func(m *Msg, c *prim.Cursor) bool {
			m.A = c.Uint()
			return m.A != 0
		},
		tagB: func(m *Msg, c *prim.Cursor) bool {
			m.B = c.Uint()
			return m.B != 0
		},
		tagKey: func(m *Msg, c *prim.Cursor) bool {
			m.Key = takeRest(c)
			return m.Key != ""
		},
		tagFound: func(m *Msg, c *prim.Cursor) bool {
			m.Found = true
			return true
		},
		tagV: func(m *Msg, c *prim.Cursor) bool {
			v, ok := takeVersion(c)
			m.V = v
			return ok && v != api.Version{}
		},
		tagWrites: func(m *Msg, c *prim.Cursor) bool {
			l, ok := takeWrites(c)
			m.Writes = l
			return ok && len(l) > 0
		},
		tagNote: func(m *Msg, c *prim.Cursor) bool {
			m.Note = takeRest(c)
			return m.Note != ""
		},
		tagHint: func(m *Msg, c *prim.Cursor) bool {
			m.Hint = c.Uint()
			return m.Hint != 0
		},
		tagMust: func(m *Msg, c *prim.Cursor) bool {
			m.Must = c.Uint()
			return m.Must != 0
		},
	}
}

// takeMessage takes a kind, and fields to the end of b; false, if these aren't there, or aren't so.
func takeMessage(version int, b string) (taken, bool) {
	c := prim.New(b)
	got := taken{m: Msg{Kind: takeInt(c)}}
	read := readers()
	var last uint64
	for c.Left() > 0 {
		head := c.Uint()
		text := c.Text()
		tag, critical := head>>1, head&1 == 1
		if c.Bad() || tag <= last {
			return taken{}, false
		}
		last = tag
		if !has(version, tag) {
			got.leftOut++
			got.critical = got.critical || critical
		} else if critical != isCritical(tag) || !isTaken(read[tag], &got.m, text) {
			return taken{}, false
		}
	}
	return got, !c.Bad()
}

// isTaken puts into m what a field has; false, if that isn't all of the text.
func isTaken(read reader, m *Msg, text string) bool {
	c := prim.New(text)
	return read(m, c) && c.Done()
}

// takeInt takes a number that is an int; of one that is too great, one that isn't right.
func takeInt(c *prim.Cursor) int {
	return int(min(c.Uint(), greatest+1))
}

// takeTxn takes a transaction's number.
func takeTxn(c *prim.Cursor) api.Txn {
	node := takeInt(c)
	life := takeInt(c)
	seq := takeInt(c)
	return api.Txn{Node: node, Life: life, Seq: seq}
}

// takeVersion takes a key's version, to the end; false, if it tells neither that it is gone nor that it isn't.
func takeVersion(c *prim.Cursor) (api.Version, bool) {
	time := c.Uint()
	gone, ok := takeGone(c)
	return api.Version{Time: time, Gone: gone, Value: takeRest(c)}, ok
}

// takeWrites takes writes; false, if one tells neither that it is gone nor that it isn't.
func takeWrites(c *prim.Cursor) ([]api.Write, bool) {
	var l []api.Write
	// However many are told, one more than there may be is enough to be too many.
	for range min(c.Uint(), api.MaxWrites+1) {
		gone, ok := takeGone(c)
		if !ok {
			return nil, false
		}
		key := takeText(c)
		value := takeText(c)
		l = append(l, api.Write{Key: key, Gone: gone, Value: value})
	}
	return l, true
}

// takeGone takes whether something is gone; false, if the byte that stands there tells neither.
func takeGone(c *prim.Cursor) (gone, ok bool) {
	b := c.Bytes(1)
	return b == isGone, b == isGone || b == isThere
}

// takeText takes a text, into memory of its own.
func takeText(c *prim.Cursor) string {
	return strings.Clone(c.Text())
}

// takeRest takes all bytes that are left, into memory of their own.
func takeRest(c *prim.Cursor) string {
	return strings.Clone(c.Bytes(c.Left()))
}
