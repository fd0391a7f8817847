package msg

import (
	"slices"

	"isogloss/api"
	"isogloss/prim"
)

// The fields' tags.
const (
	tagFrom = 1 + iota
	tagTo
	tagTxn
	tagA
	tagB
	tagKey
	tagFound
	tagV
	tagWrites
	tagNote
	tagHint
	tagMust
)

// The byte that tells whether something is gone.
const (
	isThere = "\x00"
	isGone  = "\x01"
)

// field is a field of a message: its tag, whether it isn't zero, and what it has.
type field struct {
	tag   uint64
	there bool
	text  string
}

// isVersion tells whether a version is one.
func isVersion(version int) bool {
	return 1 <= version && version <= api.MaxVersion
}

// since is the version from which on there is a tag; of one that no version has it is behind all of them.
func since(tag uint64) int {
	switch tag {
	case tagFrom, tagTo, tagTxn, tagA, tagB, tagKey, tagFound, tagV, tagWrites:
		return 1
	case tagNote:
		return 2
	case tagHint, tagMust:
		return 3
	}
	return api.MaxVersion + 1
}

// has tells whether a version has a tag.
func has(version int, tag uint64) bool {
	return since(tag) <= version
}

// isCritical tells whether a tag's field is critical.
func isCritical(tag uint64) bool {
	return tag == tagMust
}

// fieldsOf are the fields of m that aren't zero, their tags rising.
func fieldsOf(m Msg) []field {
	all := []field{
		{tagFrom, m.From != 0, numbersText(m.From)},
		{tagTo, m.To != 0, numbersText(m.To)},
		{tagTxn, m.Txn != api.Txn{}, numbersText(m.Txn.Node, m.Txn.Life, m.Txn.Seq)},
		{tagA, m.A != 0, prim.Uint(m.A)},
		{tagB, m.B != 0, prim.Uint(m.B)},
		{tagKey, m.Key != "", m.Key},
		{tagFound, m.Found, ""},
		{tagV, m.V != api.Version{}, versionText(m.V)},
		{tagWrites, len(m.Writes) > 0, writesText(m.Writes)},
		{tagNote, m.Note != "", m.Note},
		{tagHint, m.Hint != 0, prim.Uint(m.Hint)},
		{tagMust, m.Must != 0, prim.Uint(m.Must)},
	}
	return slices.DeleteFunc(all, func(f field) bool { return !f.there })
}

// bytesOf is the bytes of a message that is right, in a version.
func bytesOf(version int, m Msg) string {
	b := []byte(prim.Uint(uint64(m.Kind)))
	for _, f := range fieldsOf(m) {
		if has(version, f.tag) {
			b = append(b, prim.Uint(headOf(f.tag))...)
			b = append(b, prim.Text(f.text)...)
		}
	}
	return string(b)
}

// headOf is what stands ahead of a tag's field: the tag, and whether it is critical.
func headOf(tag uint64) uint64 {
	if isCritical(tag) {
		return tag<<1 | 1
	}
	return tag << 1
}

// numbersText is numbers' bytes, one behind the other.
func numbersText(l ...int) string {
	var b []byte
	for _, n := range l {
		b = append(b, prim.Uint(uint64(n))...)
	}
	return string(b)
}

// versionText is what the field of a key's version has.
func versionText(v api.Version) string {
	return prim.Uint(v.Time) + goneText(v.Gone) + v.Value
}

// writesText is what the field of writes has.
func writesText(l []api.Write) string {
	b := []byte(prim.Uint(uint64(len(l))))
	for _, w := range l {
		b = append(b, goneText(w.Gone)...)
		b = append(b, prim.Text(w.Key)...)
		b = append(b, prim.Text(w.Value)...)
	}
	return string(b)
}

// goneText is the byte that tells whether something is gone.
func goneText(gone bool) string {
	if gone {
		return isGone
	}
	return isThere
}
