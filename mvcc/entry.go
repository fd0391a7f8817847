package mvcc

import (
	"slices"
	"strings"

	"isogloss/api"
	"isogloss/block"
)

// tooLong tells whether a key, or a version's value, is longer than what a store has.
func tooLong(key string, v api.Version) bool {
	return len(key) > api.MaxKey || len(v.Value) > api.MaxValue
}

// chainOf is a key's chain; of no version, if the store hasn't the key.
func (s *Store) chainOf(key string) []api.Version {
	i, ok := block.Find(s.entries, key)
	if !ok {
		return nil
	}
	return s.entries[i].Chain
}

// add puts a version behind all others of its key, which goes to its place in the order, if the store hadn't it.
func (s *Store) add(key string, v api.Version) {
	i, ok := block.Find(s.entries, key)
	if !ok {
		// A clone, as the value below: what is handed in may be a small part of something long, which would be kept with it.
		s.entries = slices.Insert(s.entries, i, block.Entry{Key: strings.Clone(key)})
	}
	v.Value = strings.Clone(v.Value)
	s.entries[i].Chain = append(s.entries[i].Chain, v)
}
