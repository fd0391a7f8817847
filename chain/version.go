package chain

import (
	"strings"

	"isogloss/api"
	"isogloss/prim"
)

// The byte that tells whether a version is gone.
const (
	isThere = "\x00"
	isGone  = "\x01"
)

// place is a place in a chain: what the version that comes there is told by.
type place struct {
	time uint64 // of the version ahead; 0, if there is none
	base string // the value of the last one ahead that isn't gone
}

// behind is the place behind v, which stands at p.
func (p place) behind(v api.Version) place {
	if v.Gone {
		return place{time: v.Time, base: p.base}
	}
	return place{time: v.Time, base: v.Value}
}

// bytesOf is the bytes of a version at a place.
func bytesOf(v api.Version, at place) string {
	step := prim.Uint(v.Time - at.time)
	if v.Gone {
		return step + isGone
	}
	begins, ends := shared(v.Value, at.base)
	between := v.Value[begins : len(v.Value)-ends]
	return step + isThere + prim.Uint(uint64(begins)) + prim.Uint(uint64(ends)) + prim.Text(between)
}

// takeVersion takes the version that comes at a place; false, if no version's bytes stand there.
func takeVersion(c *prim.Cursor, at place) (api.Version, bool) {
	time := at.time + c.Uint()
	gone := c.Bytes(1)
	// A time that goes beyond the greatest one comes out below the one ahead; a step that isn't there is 0.
	if time <= at.time {
		return api.Version{}, false
	}
	switch gone {
	case isGone:
		return api.Version{Time: time, Gone: true}, true
	case isThere:
		value, ok := takeValue(c, at.base)
		return api.Version{Time: time, Value: value}, ok
	}
	return api.Version{}, false
}

// takeValue takes a value that shares with a base; false, if no value's bytes stand there.
func takeValue(c *prim.Cursor, base string) (string, bool) {
	begins := c.Uint()
	ends := c.Uint()
	between := c.Text()
	all := uint64(len(base))
	if c.Bad() || begins > all || ends > all-begins {
		return "", false
	}
	// Join makes new memory, also where it is all of one of the three: else a value would keep all bytes.
	value := strings.Join([]string{base[:begins], between, base[all-ends:]}, "")
	mostBegins, mostEnds := shared(value, base)
	return value, begins == uint64(mostBegins) && ends == uint64(mostEnds)
}

// shared is how many bytes a value begins with as the base does, and how many of the others it ends with as the base's others do.
func shared(value, base string) (begins, ends int) {
	least := min(len(value), len(base))
	for begins < least && value[begins] == base[begins] {
		begins++
	}
	for begins+ends < least && value[len(value)-1-ends] == base[len(base)-1-ends] {
		ends++
	}
	return begins, ends
}
