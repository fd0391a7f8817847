package disk_test

import (
	"bytes"
	"math/rand/v2"
	"strings"
	"testing"

	"isogloss/api"
	"isogloss/disk"
)

// full are a sector's bytes, all of them c.
func full(c byte) string {
	return strings.Repeat(string([]byte{c}), 64)
}

// counted are a sector's bytes, of which no two that stand near are the same.
func counted(from int) string {
	b := make([]byte, 64)
	for i := range b {
		b[i] = byte(from + i)
	}
	return string(b)
}

// over is what a sector has of which the first n bytes are b's, and the others old's.
func over(b string, n int, old string) string {
	l := []byte(old)
	for i := range n {
		l[i] = b[i]
	}
	return string(l)
}

// randomSector are a sector's bytes at random.
func randomSector(r *rand.Rand) string {
	b := make([]byte, 64)
	for i := range b {
		b[i] = byte(r.IntN(256))
	}
	return string(b)
}

// checkRead holds what a sector has against what it should have; what is read twice is the same.
func checkRead(t *testing.T, what string, d *disk.Disk, i int, want string) {
	t.Helper()
	for range 2 {
		if got, e := d.Read(i); got != want || e != api.OK {
			t.Errorf("%s: Read(%d): %x, error %d, not %x", what, i, got, e, want)
		}
	}
}

// checkSectors holds what all sectors have.
func checkSectors(t *testing.T, what string, d *disk.Disk, want ...string) {
	t.Helper()
	if d.Sectors() != len(want) {
		t.Errorf("%s: %d sectors, not %d", what, d.Sectors(), len(want))
	}
	for i, w := range want {
		checkRead(t, what, d, i, w)
	}
}

// checkNoRead holds that a read is refused.
func checkNoRead(t *testing.T, what string, d *disk.Disk, i int, want api.Errno) {
	t.Helper()
	if got, e := d.Read(i); got != "" || e != want {
		t.Errorf("%s: Read(%d): %x, error %d, not error %d", what, i, got, e, want)
	}
}

// checkWrite holds what a write answers.
func checkWrite(t *testing.T, what string, d *disk.Disk, i int, b string, want api.Errno) {
	t.Helper()
	if e := d.Write(i, b); e != want {
		t.Errorf("%s: Write(%d, of %d bytes): error %d, not %d", what, i, len(b), e, want)
	}
}

// checkSync holds what a sync answers.
func checkSync(t *testing.T, what string, d *disk.Disk, want api.Errno) {
	t.Helper()
	if e := d.Sync(); e != want {
		t.Errorf("%s: Sync: error %d, not %d", what, e, want)
	}
}

// checkWaits holds how many writes wait.
func checkWaits(t *testing.T, what string, d *disk.Disk, want int) {
	t.Helper()
	if n := d.Waits(); n != want {
		t.Errorf("%s: %d writes wait, not %d", what, n, want)
	}
}

// write makes writes at one sector, which are right ones.
func write(t *testing.T, d *disk.Disk, i int, l ...string) {
	t.Helper()
	for _, b := range l {
		checkWrite(t, "right", d, i, b, api.OK)
	}
}

// badSectors are numbers of no sector of a disk of n.
func badSectors(n int) []int {
	return []int{-1, n, n + 1, -n - 1, n + 64, api.MaxSectors, 1<<31 - 1, -1 << 31, 1<<63 - 1, -1 << 63}
}

// badBytes are of other than Sector bytes.
func badBytes() []string {
	return []string{"", "a", full('a')[:63], full('a') + "a", full('a') + full('a'), strings.Repeat("a", 4000)}
}

// checkLost holds that all calls but a crash are lost, also those whose arguments are wrong, and that they change nothing.
func checkLost(t *testing.T, what string, d *disk.Disk) {
	t.Helper()
	sectors, waits := d.Sectors(), d.Waits()
	for _, i := range append(badSectors(sectors), 0, sectors-1) {
		checkNoRead(t, what, d, i, api.ErrLost)
		for _, b := range append(badBytes(), full('l')) {
			checkWrite(t, what, d, i, b, api.ErrLost)
		}
	}
	checkSync(t, what, d, api.ErrLost)
	checkWaits(t, what, d, waits)
	if d.Sectors() != sectors {
		t.Errorf("%s: %d sectors, not %d any more", what, d.Sectors(), sectors)
	}
}

// slowDisk is a disk as the chapter's words tell it: what is sure is one row of bytes, and what is read is made of it and of all that waits.
type slowDisk struct {
	sectors int
	sure    []byte
	waiting []slowWrite
	fuse    int // below 0: none
}

// slowWrite is a write that waits.
type slowWrite struct {
	at int
	b  string
}

// newSlow is a slow disk of so many sectors.
func newSlow(sectors int) *slowDisk {
	for sectors < 0 {
		sectors++
	}
	for sectors > 4096 {
		sectors--
	}
	return &slowDisk{sectors: sectors, sure: make([]byte, sectors*64), fuse: -1}
}

// wrong tells the error of what is asked of a sector with these bytes.
func (d *slowDisk) wrong(i int, b string) api.Errno {
	switch {
	case d.fuse == 0:
		return api.ErrLost
	case i < 0, i >= d.sectors, len(b) != 64:
		return api.ErrArg
	}
	return api.OK
}

func (d *slowDisk) read(i int) (string, api.Errno) {
	if e := d.wrong(i, full(0)); e != api.OK {
		return "", e
	}
	now := bytes.Clone(d.sure)
	for _, w := range d.waiting {
		copy(now[w.at*64:], w.b)
	}
	return string(now[i*64 : i*64+64]), api.OK
}

func (d *slowDisk) write(i int, b string) api.Errno {
	if e := d.wrong(i, b); e != api.OK {
		return e
	}
	d.waiting = append(d.waiting, slowWrite{i, b})
	if d.fuse > 0 {
		d.fuse--
	}
	return api.OK
}

func (d *slowDisk) sync() api.Errno {
	if d.fuse == 0 {
		return api.ErrLost
	}
	for _, w := range d.waiting {
		copy(d.sure[w.at*64:], w.b)
	}
	d.waiting = nil
	return api.OK
}

func (d *slowDisk) setFuse(n int) {
	if d.fuse != 0 {
		d.fuse = n
	}
}

func (d *slowDisk) crash(fates []uint8) {
	for i, w := range d.waiting {
		n := 0
		if i < len(fates) {
			n = int(fates[i])
		}
		switch {
		case n == 255:
			n = 64
		default:
			for n >= 64 {
				n -= 64
			}
		}
		for k := range n {
			d.sure[w.at*64+k] = w.b[k]
		}
	}
	d.waiting = nil
	d.fuse = -1
}

// checkSame holds a disk against the slow one, at all sectors and about them.
func checkSame(t *testing.T, what string, d *disk.Disk, slow *slowDisk) {
	t.Helper()
	checkWaits(t, what, d, len(slow.waiting))
	if d.Sectors() != slow.sectors {
		t.Errorf("%s: %d sectors, not %d", what, d.Sectors(), slow.sectors)
	}
	for i := -1; i <= slow.sectors; i++ {
		want, wantE := slow.read(i)
		if got, e := d.Read(i); got != want || e != wantE {
			t.Errorf("%s: Read(%d): %x, error %d, not %x, error %d", what, i, got, e, want, wantE)
		}
	}
}
