package log_test

import (
	"slices"
	"testing"

	"isogloss/api"
	"isogloss/crc"
	"isogloss/disk"
	"isogloss/log"
)

// openWrites opens logs on disks of these bytes, each with a greater fuse, and tells which sectors are written.
func openWrites(t *testing.T, sectors int, b string) []int {
	t.Helper()
	var written []int
	for fuse := range sectors + 2 {
		d := diskOf(t, sectors, b)
		d.Fuse(fuse)
		l, _, e := log.Open(crc.Make(), d)
		if e == api.OK && l != nil {
			return written
		}
		checkWaits(t, "the fuse's end", d, fuse)
		if fuse > 0 {
			written = append(written, lastWritten(t, d, b, fuse))
		}
	}
	t.Errorf("more than %d writes", sectors)
	return written
}

// lastWritten is the sector that is another one, if the last of so many writes alone was made; -1, if none or several are.
func lastWritten(t *testing.T, d *disk.Disk, before string, writes int) int {
	t.Helper()
	fates := make([]uint8, writes)
	fates[writes-1] = 255
	d.Crash(fates)
	now, at := allOf(t, d), -1
	before = filled(d.Sectors(), before)
	for i := range d.Sectors() {
		if now[i*sector:(i+1)*sector] != before[i*sector:(i+1)*sector] {
			if at >= 0 {
				return -1
			}
			at = i
		}
	}
	return at
}

// checkOpenWrites holds which sectors are written as a log is opened on a disk that has b, and what it has then.
func checkOpenWrites(t *testing.T, what string, sectors int, b string, want []int, records ...string) {
	t.Helper()
	got := openWrites(t, sectors, b)
	slices.Sort(got)
	if !slices.Equal(got, want) {
		t.Errorf("%s: the sectors %v are written, not %v", what, got, want)
	}
	d := diskOf(t, sectors, b)
	checkOpen(t, what, d, records...)
	checkDisk(t, what, d, written(records...))
	if s := sureOf(t, d); s != filled(sectors, written(records...)) {
		t.Errorf("%s: not all is sure", what)
	}
	checkOpenWritesNothing(t, what, d, records...)
}

// checkOpenWritesNothing opens a log on a disk that needs no writes: a fuse of 1 stays as it was.
func checkOpenWritesNothing(t *testing.T, what string, d *disk.Disk, records ...string) {
	t.Helper()
	before := allOf(t, d)
	d.Fuse(1)
	checkOpen(t, what+", opened again", d, records...)
	d.Fuse(-1)
	if allOf(t, d) != before {
		t.Errorf("%s: opened again the disk is another one", what)
	}
}

// P8.1: a new disk has no records, and nothing is written.
func TestOpenNew(t *testing.T) {
	for _, n := range []int{-1, 0, 1, 2, 3, 64, 4096, 5000} {
		d := disk.New(n)
		checkOpenWritesNothing(t, "a new disk", d)
		checkDisk(t, "a new disk", d, "")
	}
}

// P8.1: a disk with records and noughts behind them: all are told, and nothing is written.
func TestOpenWithRecords(t *testing.T) {
	for _, n := range rightLengths() {
		records := []string{"first", counted(n, n), counted(9, 77)}
		d := diskOf(t, 66, written(records...))
		checkOpenWritesNothing(t, "records", d, records...)
		checkDisk(t, "records", d, written(records...))
	}
}

// P8.1: records that end where a sector ends, and where the disk does.
func TestOpenWhereASectorEnds(t *testing.T) {
	for sectors := 1; sectors < 5; sectors++ {
		r := counted(3, sectors*sector-6)
		for more := range 3 {
			d := diskOf(t, sectors+more, written(r))
			checkOpenWritesNothing(t, "up to a sector's end", d, r)
		}
		checkOpenWrites(t, "bytes behind a sector's end", sectors+2, written(r)+"x", []int{sectors}, r)
	}
	all := slices.Repeat([]string{counted(0, 58)}, 4096)
	checkOpenWritesNothing(t, "a full disk", diskOf(t, 4096, written(all...)), all...)
}

// P8.1: other bytes behind the end, in its sector, are made noughts; what stands ahead in it stays.
func TestOpenClearsTheEndsSector(t *testing.T) {
	ab := written("ab")
	checkOpenWrites(t, "behind the end", 3, ab+"x", []int{0}, "ab")
	checkOpenWrites(t, "the sector's last byte", 3, filled(1, ab)[:63]+"x", []int{0}, "ab")
	checkOpenWrites(t, "a whole sector", 3, ab+counted(0, 56), []int{0}, "ab")
	checkOpenWrites(t, "no records", 3, "x", []int{0})
	checkOpenWrites(t, "no records, the last byte", 3, noughts(63)+"x", []int{0})
	long := counted(1, 100)
	checkOpenWrites(t, "the second sector", 3, written(long)+"x", []int{1}, long)
	checkOpenWrites(t, "a record in part", 3, ab+written("cde")[:8], []int{0}, "ab")
	checkOpenWrites(t, "a record behind noughts", 3, ab+"\x00"+written("cde"), []int{0}, "ab")
	for at := 8; at < 64; at++ {
		checkOpenWrites(t, "one byte", 2, ab+noughts(at-8)+"\x01", []int{0}, "ab")
	}
}

// P8.1: other bytes in later sectors: those that are noughts aren't written.
func TestOpenClearsLaterSectors(t *testing.T) {
	ab := filled(1, written("ab"))
	full := counted(0, 64)
	checkOpenWrites(t, "the next one", 5, ab+full, []int{1}, "ab")
	checkOpenWrites(t, "the last one", 5, ab+noughts(3*64)+full, []int{4}, "ab")
	checkOpenWrites(t, "the last byte of all", 5, ab+noughts(4*64-1)+"x", []int{4}, "ab")
	checkOpenWrites(t, "the first byte of one", 5, ab+noughts(64)+"x", []int{2}, "ab")
	checkOpenWrites(t, "two of them", 6, ab+full+noughts(128)+full, []int{1, 4}, "ab")
	checkOpenWrites(t, "the end's too", 6, written("ab")+counted(0, 56)+noughts(64)+full+noughts(64)+full, []int{0, 2, 4}, "ab")
	checkOpenWrites(t, "all", 5, written("ab")+counted(0, 5*64-8), []int{0, 1, 2, 3, 4}, "ab")
	checkOpenWrites(t, "all, no records", 3, counted(200, 3*64), []int{0, 1, 2})
	checkOpenWrites(t, "records behind a hole", 5, ab+written("c", "d")+noughts(50)+written("e"), []int{1, 2}, "ab")
}

// P8.1: a record of which a bit was turned, and those behind it, are cleared.
func TestOpenClearsDamage(t *testing.T) {
	a, b, c := counted(1, 100), counted(2, 20), counted(3, 90)
	whole := written(a, b, c)
	ahead := len(written(a))
	for bit := 8 * ahead; bit < 8*(ahead+26); bit++ {
		d := diskOf(t, 5, turned(whole, bit))
		checkOpen(t, "damage", d, a)
		checkDisk(t, "damage", d, written(a))
	}
}

// P8.1: what waits as a log is opened is told, and is sure behind it, where sectors are written and where none is.
func TestOpenSyncs(t *testing.T) {
	for _, behind := range []string{"", "x", noughts(100) + "x"} {
		d := disk.New(5)
		lay(t, d, 0, written("ab", "c")+behind)
		if d.Waits() == 0 {
			t.Errorf("nothing waits")
		}
		checkOpen(t, "what waits", d, "ab", "c")
		if s := sureOf(t, d); s != filled(5, written("ab", "c")) {
			t.Errorf("what waited isn't sure: %x", s)
		}
		checkOpen(t, "what waited", d, "ab", "c")
	}
}

// P8.1: one that stands by chance is told, and isn't cleared.
func TestOpenByChance(t *testing.T) {
	length := "\x00\x46"
	r := summing(length + counted(1, 66))[2:]
	b := length + noughts(4) + r
	d := diskOf(t, 3, b+"\x01")
	checkOpen(t, "by chance", d, r)
	checkDisk(t, "by chance", d, b)
}

// P8.1: opened twice, in between with appends, with no power that went: all records are told.
func TestOpenTwice(t *testing.T) {
	d := disk.New(8)
	first := checkOpen(t, "first", d)
	appendAll(t, first, "a", counted(0, 90))
	second := checkOpen(t, "second", d, "a", counted(0, 90))
	appendAll(t, second, "b")
	checkOpen(t, "third", d, "a", counted(0, 90), "b")
	checkOpenWritesNothing(t, "fourth", d, "a", counted(0, 90), "b")
}

// P8.1: no log is opened where the power is gone, nor where it goes ahead of the last write, or with it.
func TestOpenWithoutPower(t *testing.T) {
	for _, sectors := range []int{0, 1, 5} {
		d := disk.New(sectors)
		d.Fuse(0)
		checkNoOpen(t, "no power", d)
		checkNoOpen(t, "no power still", d)
		checkWaits(t, "no power", d, 0)
		d.Crash(nil)
		checkOpen(t, "power again", d)
	}
	b := written("ab") + counted(0, 4*64)
	for fuse := range 6 {
		d := diskOf(t, 6, b)
		d.Fuse(fuse)
		checkNoOpen(t, "a fuse", d)
		checkWaits(t, "a fuse", d, fuse)
		if s := sureOf(t, d); s != filled(6, b) {
			t.Errorf("a fuse of %d: what was sure isn't", fuse)
		}
	}
	d := diskOf(t, 6, b)
	d.Fuse(6)
	checkOpen(t, "a fuse of one more", d, "ab")
}

// P8.1, P8.3: wherever the power goes as a log is opened, and whatever fates its writes meet, opened again it has the same.
func TestOpenAgainBehindAFuse(t *testing.T) {
	b := written("ab", counted(7, 80)) + counted(0, 4*64)
	for fuse := range 6 {
		for f := range 256 {
			for only := -1; only < fuse; only++ {
				d := diskOf(t, 6, b)
				d.Fuse(fuse)
				checkNoOpen(t, "a fuse", d)
				fates := make([]uint8, fuse)
				for i := range fates {
					if only == -1 || only == i {
						fates[i] = uint8(f)
					}
				}
				d.Crash(fates)
				checkOpen(t, "again", d, "ab", counted(7, 80))
				checkDisk(t, "again", d, written("ab", counted(7, 80)))
			}
		}
	}
}
