package log

import (
	"strings"

	"isogloss/api"
	"isogloss/crc"
	"isogloss/prim"
)

// What stands ahead of a record: how many bytes it has, and its sum.
const (
	lengthSize = 2
	sumSize    = 4
	headSize   = lengthSize + sumSize
)

// Stands is what stands in the bytes of a log, and its end.
func Stands(t crc.Table, b string) ([]string, int) {
	var records []string
	end := 0
	for {
		record, ok := leading(t, b[end:])
		if !ok {
			return records, end
		}
		// Else one record that is kept would hold the bytes of all.
		records = append(records, strings.Clone(record))
		end += headSize + len(record)
	}
}

// leading is the record with which b begins; false, if none stands there.
func leading(t crc.Table, b string) (string, bool) {
	c := prim.New(b)
	length := c.Fixed(lengthSize, true)
	sum := c.Fixed(sumSize, true)
	record := c.Bytes(int(length))
	if c.Bad() || !isLength(length) || uint32(sum) != sumOf(t, record) {
		return "", false
	}
	return record, true
}

// bytesOf is what is written of a record.
func bytesOf(t crc.Table, record string) string {
	return lengthOf(record) + prim.Fixed(uint64(sumOf(t, record)), sumSize, true) + record
}

// sumOf is the sum of a record and of its length: a length that is damaged must be told, too.
func sumOf(t crc.Table, record string) uint32 {
	state := crc.More(t, crc.Begin(), lengthOf(record))
	return crc.End(crc.More(t, state, record))
}

// lengthOf is the bytes of a record's length.
func lengthOf(record string) string {
	return prim.Fixed(uint64(len(record)), lengthSize, true)
}

// isLength tells whether a record may have so many bytes.
func isLength(n uint64) bool {
	return 1 <= n && n <= api.MaxMessage
}
