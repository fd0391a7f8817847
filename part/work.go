package part

import (
	"cmp"
	"slices"
	"strings"

	"isogloss/api"
)

// work is what a transaction that is prepared has.
type work struct {
	start  uint64
	writes []api.Write
}

// hold makes a transaction prepared, with its keys locked.
func (p *Part) hold(t api.Txn, w work) {
	// Made here and not by New: a participant that no New made has none either.
	if p.prepared == nil {
		p.prepared = map[api.Txn]work{}
		p.locked = map[string]struct{}{}
	}
	p.prepared[t] = w
	for _, x := range w.writes {
		p.locked[x.Key] = struct{}{}
	}
}

// release makes a transaction prepared no more, and its keys free.
func (p *Part) release(t api.Txn) {
	// No key is freed that another one locks: no two lock one.
	for _, x := range p.prepared[t].writes {
		delete(p.locked, x.Key)
	}
	delete(p.prepared, t)
}

// isLocked tells whether one that is prepared writes a key.
func (p *Part) isLocked(key string) bool {
	_, ok := p.locked[key]
	return ok
}

// right tells whether l may be what one transaction writes, however long its keys and values are.
func right(l []api.Write) bool {
	if len(l) == 0 || len(l) > api.MaxWrites {
		return false
	}
	for i, w := range l {
		again := func(ahead api.Write) bool { return ahead.Key == w.Key }
		if slices.ContainsFunc(l[:i], again) || w.Gone && w.Value != "" {
			return false
		}
	}
	return true
}

// tooLong tells whether a write's key, or its value, is longer than what a store has.
func tooLong(w api.Write) bool {
	return len(w.Key) > api.MaxKey || len(w.Value) > api.MaxValue
}

// cloned is the same writes, in memory of their own: what was handed in isn't kept.
func cloned(l []api.Write) []api.Write {
	own := make([]api.Write, len(l))
	for i, w := range l {
		own[i] = api.Write{Key: strings.Clone(w.Key), Gone: w.Gone, Value: strings.Clone(w.Value)}
	}
	return own
}

// byNumber is the order of transactions: by Node, then by Life, then by Seq.
func byNumber(a, b api.Txn) int {
	return cmp.Or(cmp.Compare(a.Node, b.Node), cmp.Compare(a.Life, b.Life), cmp.Compare(a.Seq, b.Seq))
}
