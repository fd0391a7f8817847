package block

import (
	"strings"

	"isogloss/api"
	"isogloss/chain"
	"isogloss/prim"
)

// bytesOf is the bytes of the entry that comes behind those ahead.
func bytesOf(entry Entry, ahead []Entry) (string, api.Errno) {
	if !rises(entry.Key, ahead) || len(entry.Chain) == 0 {
		return "", api.ErrArg
	}
	versions, e := chain.Encode(entry.Chain)
	if e != api.OK {
		return "", e
	}
	begins := shared(entry.Key, lastKey(ahead))
	return prim.Uint(uint64(begins)) + prim.Text(entry.Key[begins:]) + prim.Text(versions), api.OK
}

// takeEntries takes all entries, with which the bytes are over.
func takeEntries(c *prim.Cursor) ([]Entry, api.Errno) {
	count := c.Uint()
	var l []Entry
	long := false
	for range count {
		entry, e := takeEntry(c, l)
		if e == api.ErrForm {
			return nil, e
		}
		// Not told at once: what isn't so in an entry that follows goes ahead of it.
		long = long || e == api.ErrLong
		l = append(l, entry)
	}
	if !c.Done() {
		return nil, api.ErrForm
	}
	if long {
		return nil, api.ErrLong
	}
	return l, api.OK
}

// takeEntry takes the entry that comes behind those ahead; beside ErrLong it has its key alone.
func takeEntry(c *prim.Cursor, ahead []Entry) (Entry, api.Errno) {
	key, ok := takeKey(c, ahead)
	versions := c.Text()
	if !ok || c.Bad() {
		return Entry{}, api.ErrForm
	}
	l, e := chain.Decode(versions)
	if e == api.OK && len(l) == 0 {
		return Entry{}, api.ErrForm
	}
	return Entry{Key: key, Chain: l}, e
}

// takeKey takes the key that comes behind the entries ahead; false, if no key's bytes stand there.
func takeKey(c *prim.Cursor, ahead []Entry) (string, bool) {
	begins := c.Uint()
	others := c.Text()
	last := lastKey(ahead)
	if c.Bad() || begins > uint64(len(last)) {
		return "", false
	}
	// Join makes new memory, also where it is all of one of the two: else a key would keep all that was unpacked.
	key := strings.Join([]string{last[:begins], others}, "")
	return key, rises(key, ahead) && shared(key, last) == int(begins)
}

// rises tells whether a key may come behind the entries ahead.
func rises(key string, ahead []Entry) bool {
	return len(ahead) == 0 || lastKey(ahead) < key
}

// lastKey is the key of the last entry; nothing, if there is none.
func lastKey(l []Entry) string {
	if len(l) == 0 {
		return ""
	}
	return l[len(l)-1].Key
}

// shared is how many bytes a key begins with as the last one ahead of it does.
func shared(key, last string) int {
	n := 0
	for n < len(key) && n < len(last) && key[n] == last[n] {
		n++
	}
	return n
}
