package coord

import (
	"slices"
	"strings"

	"isogloss/api"
)

// right tells whether p may be a program, however long its keys and values are.
func right(p Prog) bool {
	if len(p.Reads) > api.MaxWrites || len(p.Writes) > api.MaxWrites {
		return false
	}
	for i, w := range p.Writes {
		again := func(ahead api.Write) bool { return ahead.Key == w.Key }
		if slices.ContainsFunc(p.Writes[:i], again) || w.Gone && w.Value != "" {
			return false
		}
	}
	return true
}

// tooLong tells whether a key, or a value, of a program is longer than what a store has.
func tooLong(p Prog) bool {
	longKey := func(key string) bool { return len(key) > api.MaxKey }
	longWrite := func(w api.Write) bool { return longKey(w.Key) || len(w.Value) > api.MaxValue }
	return slices.ContainsFunc(p.Reads, longKey) || slices.ContainsFunc(p.Writes, longWrite)
}

// settled is an owner that goes on answering what the one that was handed in answered once, of each key that is written.
// A run that asked that one again could hear otherwise, and would wait for nodes that have no part.
func settled(owner func(key string) int, l []api.Write) func(key string) int {
	nodes := map[string]int{}
	for _, w := range l {
		nodes[w.Key] = told(owner, w.Key)
	}
	return func(key string) int { return nodes[key] }
}

// told is what an owner tells of a key; the node 0, if it tells none: there is no error for one that is nil, or panics.
func told(owner func(key string) int, key string) (node int) {
	defer func() {
		if recover() != nil {
			node = 0
		}
	}()
	return owner(key)
}

// nodes are those that some writes are at, rising, each one once.
func nodes(owner func(key string) int, l []api.Write) []int {
	var all []int
	for _, w := range l {
		all = append(all, owner(w.Key))
	}
	slices.Sort(all)
	return slices.Compact(all)
}

// cloned is the same program, in memory of its own: what was handed in isn't kept.
func cloned(p Prog) Prog {
	var own Prog
	for _, key := range p.Reads {
		own.Reads = append(own.Reads, strings.Clone(key))
	}
	for _, w := range p.Writes {
		own.Writes = append(own.Writes, clonedWrite(w))
	}
	return own
}

// clonedWrite is the same write, in memory of its own.
func clonedWrite(w api.Write) api.Write {
	return api.Write{Key: strings.Clone(w.Key), Gone: w.Gone, Value: strings.Clone(w.Value)}
}

// clonedRead is the same read, in memory of its own.
func clonedRead(x Read) Read {
	v := api.Version{Time: x.V.Time, Gone: x.V.Gone, Value: strings.Clone(x.V.Value)}
	return Read{Key: strings.Clone(x.Key), Found: x.Found, V: v}
}
