package log_test

import (
	"encoding/binary"
	"hash/crc32"
	"math/rand/v2"
	"slices"
	"strings"
	"testing"

	"isogloss/api"
	"isogloss/crc"
	"isogloss/disk"
	"isogloss/log"
)

// sector is how many bytes a sector has.
const sector = 64

// longest is how many bytes a record has at most.
const longest = 4000

// noughts are n noughts.
func noughts(n int) string {
	return string(make([]byte, n))
}

// counted are n bytes, none of them a nought, of which no two that stand near are the same.
func counted(from, n int) string {
	b := make([]byte, n)
	for i := range b {
		b[i] = byte(1 + (from*37+i)%255)
	}
	return string(b)
}

// randomBytes are n bytes at random.
func randomBytes(r *rand.Rand, n int) string {
	b := make([]byte, n)
	for i := range b {
		b[i] = byte(r.IntN(256))
	}
	return string(b)
}

// castagnoli is the sum of bytes, by the library.
func castagnoli(b string) uint32 {
	return crc32.Checksum([]byte(b), crc32.MakeTable(crc32.Castagnoli))
}

// headed is what stands in a log of some bytes that are called a record of length n, whether it may have so many or not.
func headed(n int, b string) string {
	length := string(binary.BigEndian.AppendUint16(nil, uint16(n)))
	return length + string(binary.BigEndian.AppendUint32(nil, castagnoli(length+b))) + b
}

// written is what stands in a log of these records.
func written(records ...string) string {
	var all string
	for _, r := range records {
		all += headed(len(r), r)
	}
	return all
}

// turned is b with one bit the other way.
func turned(b string, bit int) string {
	l := []byte(b)
	l[bit/8] ^= 1 << (bit % 8)
	return string(l)
}

// summing is prefix and four bytes more, of which the sum is 0.
func summing(prefix string) string {
	base := castagnoli(prefix + noughts(4))
	// Each bit of the four bytes turns the same bits of the sum, whatever the others are: what is wanted is a choice of them.
	var turns, chosen [32]uint32
	for i := range 32 {
		turns[i] = castagnoli(prefix+turned(noughts(4), i)) ^ base
		chosen[i] = 1 << i
	}
	for bit := range 32 {
		at := slices.IndexFunc(turns[bit:], func(n uint32) bool { return n>>bit&1 == 1 }) + bit
		turns[bit], turns[at] = turns[at], turns[bit]
		chosen[bit], chosen[at] = chosen[at], chosen[bit]
		for i := range 32 {
			if i != bit && turns[i]>>bit&1 == 1 {
				turns[i] ^= turns[bit]
				chosen[i] ^= chosen[bit]
			}
		}
	}
	last := uint32(0)
	for bit := range 32 {
		if base>>bit&1 == 1 {
			last ^= chosen[bit]
		}
	}
	return prefix + string(binary.LittleEndian.AppendUint32(nil, last))
}

// filled is b, and noughts up to so many sectors.
func filled(sectors int, b string) string {
	return b + noughts(sectors*sector-len(b))
}

// diskOf is a disk of so many sectors that has b and noughts, all of it sure.
func diskOf(t *testing.T, sectors int, b string) *disk.Disk {
	t.Helper()
	d := disk.New(sectors)
	lay(t, d, 0, b)
	if e := d.Sync(); e != api.OK {
		t.Fatalf("a disk to begin with: error %d", e)
	}
	return d
}

// lay writes b and noughts over the sectors from first on that b touches; it waits.
func lay(t *testing.T, d *disk.Disk, first int, b string) {
	t.Helper()
	for i := 0; i*sector < len(b); i++ {
		s := b[i*sector : min((i+1)*sector, len(b))]
		if e := d.Write(first+i, filled(1, s)); e != api.OK {
			t.Fatalf("a disk to begin with: error %d", e)
		}
	}
}

// allOf is what a disk has, whose power is there.
func allOf(t *testing.T, d *disk.Disk) string {
	t.Helper()
	var all strings.Builder
	for i := range d.Sectors() {
		b, e := d.Read(i)
		if e != api.OK {
			t.Errorf("Read(%d): error %d", i, e)
		}
		all.WriteString(b)
	}
	return all.String()
}

// sureOf is what a disk has if all that waits never was.
func sureOf(t *testing.T, d *disk.Disk) string {
	t.Helper()
	d.Crash(nil)
	return allOf(t, d)
}

// checkDisk holds what a disk has; behind b there are noughts.
func checkDisk(t *testing.T, what string, d *disk.Disk, b string) {
	t.Helper()
	got, want := allOf(t, d), filled(d.Sectors(), b)
	for i := range d.Sectors() {
		if g, w := got[i*sector:(i+1)*sector], want[i*sector:(i+1)*sector]; g != w {
			t.Errorf("%s: sector %d: %x, not %x", what, i, g, w)
		}
	}
}

// checkWaits holds how many writes wait.
func checkWaits(t *testing.T, what string, d *disk.Disk, want int) {
	t.Helper()
	if n := d.Waits(); n != want {
		t.Errorf("%s: %d writes wait, not %d", what, n, want)
	}
}

// checkRecords holds some records against those that there should be.
func checkRecords(t *testing.T, what string, got, want []string) {
	t.Helper()
	if !slices.Equal(got, want) {
		t.Errorf("%s: %d records %.200q, not %d %.200q", what, len(got), got, len(want), want)
	}
}

// checkStands holds what stands in bytes, and the end; what is asked twice is the same.
func checkStands(t *testing.T, what, b string, end int, want ...string) {
	t.Helper()
	for range 2 {
		got, n := log.Stands(crc.Make(), b)
		checkRecords(t, what, got, want)
		if n != end {
			t.Errorf("%s: the end is %d, not %d", what, n, end)
		}
	}
}

// checkOpen opens a log, and holds what stands in it.
func checkOpen(t *testing.T, what string, d *disk.Disk, want ...string) *log.Log {
	t.Helper()
	l, got := checkOpened(t, d)
	checkRecords(t, what, got, want)
	checkLog(t, what, l, len(written(want...)), false)
	checkWaits(t, what+", opened", d, 0)
	return l
}

// checkOpened opens a log whose power is there, and hands what stands in it out.
func checkOpened(t *testing.T, d *disk.Disk) (*log.Log, []string) {
	t.Helper()
	l, got, e := log.Open(crc.Make(), d)
	if e != api.OK || l == nil {
		t.Fatalf("Open: log %v, error %d", l, e)
	}
	return l, got
}

// checkNoOpen holds that the power was gone as a log was opened.
func checkNoOpen(t *testing.T, what string, d *disk.Disk) {
	t.Helper()
	if l, got, e := log.Open(crc.Make(), d); l != nil || len(got) != 0 || e != api.ErrLost {
		t.Errorf("%s: Open: log %v, %d records, error %d, not error %d", what, l, len(got), e, api.ErrLost)
	}
}

// checkLog holds a log's end, and whether it is over.
func checkLog(t *testing.T, what string, l *log.Log, end int, over bool) {
	t.Helper()
	if l.End() != end || l.Over() != over {
		t.Errorf("%s: End %d, Over %v, not %d, %v", what, l.End(), l.Over(), end, over)
	}
}

// checkAppend holds what an append answers.
func checkAppend(t *testing.T, what string, l *log.Log, record string, want api.Errno) {
	t.Helper()
	if e := l.Append(record); e != want {
		t.Errorf("%s: Append(of %d bytes): error %d, not %d", what, len(record), e, want)
	}
}

// checkSync holds what a sync answers.
func checkSync(t *testing.T, what string, l *log.Log, want api.Errno) {
	t.Helper()
	if e := l.Sync(); e != want {
		t.Errorf("%s: Sync: error %d, not %d", what, e, want)
	}
}

// appendAll appends right records, for which there is room.
func appendAll(t *testing.T, l *log.Log, records ...string) {
	t.Helper()
	for _, r := range records {
		end := l.End()
		checkAppend(t, "right", l, r, api.OK)
		checkLog(t, "appended", l, end+6+len(r), false)
	}
}

// checkOver holds that each call on a log that is over is lost, and changes nothing.
func checkOver(t *testing.T, what string, l *log.Log, d *disk.Disk) {
	t.Helper()
	end, waits := l.End(), d.Waits()
	for range 2 {
		for _, r := range []string{"", "a", counted(0, longest), counted(0, longest+1), counted(0, 5*longest)} {
			checkAppend(t, what, l, r, api.ErrLost)
		}
		checkSync(t, what, l, api.ErrLost)
		checkLog(t, what, l, end, true)
		checkWaits(t, what, d, waits)
	}
}

// rightLengths are how many bytes records have, of all kinds.
func rightLengths() []int {
	return []int{1, 2, 5, 51, 52, 57, 58, 59, 64, 70, 121, 122, 123, 127, 128, 129, 255, 256, 257, 511, 1000, longest - 1, longest}
}

// slowLog is a log as the chapter's words tell it: it keeps all bytes, and holds each sector against what the disk has.
type slowLog struct {
	d    *disk.Disk
	b    []byte
	end  int
	over bool
}

// slowStands is what stands in bytes, byte by byte.
func slowStands(b []byte) ([]string, int) {
	var records []string
	at := 0
	for at+6 <= len(b) {
		n := 256*int(b[at]) + int(b[at+1])
		if n == 0 || n > longest || at+6+n > len(b) {
			break
		}
		record := string(b[at+6 : at+6+n])
		if !strings.HasPrefix(string(b[at:]), headed(n, record)) {
			break
		}
		records = append(records, record)
		at += 6 + n
	}
	return records, at
}

// openSlow opens a slow log.
func openSlow(d *disk.Disk) (*slowLog, []string, api.Errno) {
	l := &slowLog{d: d}
	for i := range d.Sectors() {
		s, e := d.Read(i)
		if e != api.OK {
			return nil, nil, e
		}
		l.b = append(l.b, s...)
	}
	records, end := slowStands(l.b)
	l.end = end
	for i := range d.Sectors() {
		dirty := false
		for k := i * sector; k < (i+1)*sector; k++ {
			if k >= end && l.b[k] != 0 {
				l.b[k] = 0
				dirty = true
			}
		}
		if dirty {
			if e := d.Write(i, string(l.b[i*sector:(i+1)*sector])); e != api.OK {
				return nil, nil, e
			}
		}
	}
	if e := d.Sync(); e != api.OK {
		return nil, nil, e
	}
	return l, records, api.OK
}

func (l *slowLog) append(record string) api.Errno {
	switch n := len(record); {
	case l.over:
		return api.ErrLost
	case n < 1, n > longest:
		return api.ErrLong
	case l.end+6+n > len(l.b):
		return api.ErrFull
	}
	touched := map[int]bool{}
	for i, c := range []byte(headed(len(record), record)) {
		l.b[l.end+i] = c
		touched[(l.end+i)/sector] = true
	}
	for i := range l.d.Sectors() {
		if !touched[i] {
			continue
		}
		if e := l.d.Write(i, string(l.b[i*sector:(i+1)*sector])); e != api.OK {
			l.over = true
			return e
		}
	}
	l.end += 6 + len(record)
	return api.OK
}

func (l *slowLog) sync() api.Errno {
	if l.over {
		return api.ErrLost
	}
	e := l.d.Sync()
	l.over = e == api.ErrLost
	return e
}
