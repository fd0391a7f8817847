package disk_test

import (
	"strings"
	"testing"
	"unsafe"

	"isogloss/api"
	"isogloss/disk"
)

// P7.1: a disk has as many sectors as it was asked for, none below 0, and no more than MaxSectors.
func TestNew(t *testing.T) {
	for n, want := range map[int]int{
		0: 0, 1: 1, 2: 2, 63: 63, 64: 64, 65: 65, 4095: 4095, 4096: 4096,
		4097: 4096, 5000: 4096, 65536: 4096, 1<<31 - 1: 4096, 1 << 31: 4096, 1 << 32: 4096, 1<<32 + 5: 4096, 1<<63 - 1: 4096,
		-1: 0, -2: 0, -4096: 0, -1 << 31: 0, -1<<32 + 5: 0, -1<<63 + 7: 0, -1 << 63: 0,
	} {
		d := disk.New(n)
		if d.Sectors() != want {
			t.Errorf("New(%d): %d sectors, not %d", n, d.Sectors(), want)
		}
		checkWaits(t, "new", d, 0)
		for _, i := range badSectors(want) {
			if i < 0 || i >= want {
				checkNoRead(t, "new", d, i, api.ErrArg)
				checkWrite(t, "new", d, i, full('a'), api.ErrArg)
			}
		}
	}
}

// P7.1: all sectors are noughts at first, and each is one of its own.
func TestNoughtsAtFirst(t *testing.T) {
	for _, n := range []int{1, 2, 5, 4096, 4097} {
		d := disk.New(n)
		for i := range d.Sectors() {
			checkRead(t, "new", d, i, full(0))
		}
		last := d.Sectors() - 1
		write(t, d, last, full('z'))
		checkRead(t, "the last one", d, last, full('z'))
		for i := range last {
			checkRead(t, "ahead of the last one", d, i, full(0))
		}
	}
}

// P7.1: a write is read at once, ahead of a sync and behind it, and the last one of a sector is what it has.
func TestWriteIsReadAtOnce(t *testing.T) {
	d := disk.New(3)
	write(t, d, 1, full('a'))
	checkSectors(t, "a", d, full(0), full('a'), full(0))
	write(t, d, 1, counted(1))
	checkSectors(t, "counted", d, full(0), counted(1), full(0))
	write(t, d, 2, full(255))
	write(t, d, 0, full('c'), full('d'))
	checkSectors(t, "all three", d, full('d'), counted(1), full(255))
	checkSync(t, "all three", d, api.OK)
	checkSectors(t, "all three, synced", d, full('d'), counted(1), full(255))
	write(t, d, 1, full(0))
	checkSectors(t, "noughts again", d, full('d'), full(0), full(255))
	checkSync(t, "noughts again", d, api.OK)
	checkSectors(t, "noughts again, synced", d, full('d'), full(0), full(255))
}

// P7.1: a write is of each byte that may be.
func TestWriteOfEachByte(t *testing.T) {
	d := disk.New(256)
	for i := range 256 {
		write(t, d, i, full(byte(i)))
	}
	for i := range 256 {
		checkRead(t, "each byte", d, i, full(byte(i)))
	}
	for i := range 256 {
		write(t, d, i, counted(i))
		checkRead(t, "counted", d, i, counted(i))
	}
}

// P7.1: how many writes wait is told behind each write, sync and crash, also of writes of what a sector has already.
func TestWaits(t *testing.T) {
	d := disk.New(4)
	checkWaits(t, "new", d, 0)
	checkSync(t, "new", d, api.OK)
	checkWaits(t, "new, synced", d, 0)
	for i := range 10 {
		write(t, d, i%2, full(0))
		checkWaits(t, "written", d, i+1)
	}
	d.Read(0)
	d.Read(-1)
	d.Write(-1, full('a'))
	d.Write(4, full('a'))
	d.Write(0, "a")
	checkWaits(t, "refused", d, 10)
	checkSync(t, "ten", d, api.OK)
	checkWaits(t, "synced", d, 0)
	checkSync(t, "none", d, api.OK)
	checkWaits(t, "synced twice", d, 0)
	write(t, d, 3, full('a'), full('b'), full('b'))
	checkWaits(t, "three more", d, 3)
	d.Crash([]uint8{255})
	checkWaits(t, "crashed", d, 0)
	write(t, d, 3, full('a'))
	checkWaits(t, "one more", d, 1)
}

// P7.1: of no sector, or of other than Sector bytes, ErrArg, which changes nothing.
func TestWrongArguments(t *testing.T) {
	for _, n := range []int{0, 1, 2, 7, 4096} {
		d := disk.New(n)
		for i := range n {
			write(t, d, i, counted(i))
		}
		checkNoChange := func(what string) {
			t.Helper()
			checkWaits(t, what, d, n)
			for i := 0; i < n; i += 1 + n/50 {
				checkRead(t, what, d, i, counted(i))
			}
		}
		for _, i := range badSectors(n) {
			if i >= 0 && i < n {
				continue
			}
			checkNoRead(t, "no sector", d, i, api.ErrArg)
			for _, b := range append(badBytes(), full('a')) {
				checkWrite(t, "no sector", d, i, b, api.ErrArg)
			}
			checkNoChange("no sector")
		}
		for _, b := range badBytes() {
			for _, i := range []int{0, n - 1} {
				checkWrite(t, "other than Sector bytes", d, i, b, api.ErrArg)
			}
			checkNoChange("other than Sector bytes")
		}
	}
}

// P7.1: a disk of no sectors has its calls, too.
func TestNoSectors(t *testing.T) {
	var none disk.Disk
	for _, d := range []*disk.Disk{disk.New(0), disk.New(-1), &none} {
		for _, i := range badSectors(0) {
			checkNoRead(t, "no sectors", d, i, api.ErrArg)
			checkWrite(t, "no sectors", d, i, full('a'), api.ErrArg)
		}
		checkSync(t, "no sectors", d, api.OK)
		d.Crash([]uint8{255, 1})
		checkSectors(t, "no sectors, crashed", d)
		checkWaits(t, "no sectors, crashed", d, 0)
		d.Fuse(1)
		checkWrite(t, "no sectors, a fuse", d, 0, full('a'), api.ErrArg)
		checkSync(t, "no sectors, a fuse", d, api.OK)
		d.Fuse(0)
		checkLost(t, "no sectors, no power", d)
		d.Crash(nil)
		checkNoRead(t, "no sectors, power again", d, 0, api.ErrArg)
		checkSync(t, "no sectors, power again", d, api.OK)
	}
}

// P7.1: a write holds nothing of the text of which its bytes are a piece.
func TestWriteHoldsNoMore(t *testing.T) {
	great := strings.Repeat("great", 1000)
	d := disk.New(1)
	write(t, d, 0, great[:64])
	b, _ := d.Read(0)
	if unsafe.StringData(b) == unsafe.StringData(great) {
		t.Error("what is read is a piece of what was handed in")
	}
}

// P7.1, P7.2: the bytes that are handed in are left as they are, through a sync and a crash that tears them, and aren't kept.
func TestBytesAreLeft(t *testing.T) {
	l := []byte("ahead" + counted(1) + "behind")
	b := unsafe.String(&l[5], 64)
	d := disk.New(2)
	write(t, d, 0, b, b)
	checkSync(t, "two", d, api.OK)
	write(t, d, 0, full('a'), b)
	write(t, d, 1, b)
	d.Crash([]uint8{30, 20, 10})
	if string(l) != "ahead"+counted(1)+"behind" {
		t.Errorf("the bytes are %x", l)
	}
	clear(l)
	torn := over(counted(1), 20, over(full('a'), 30, counted(1)))
	checkSectors(t, "crashed", d, torn, over(counted(1), 10, full(0)))
}

// P7.1, P7.2: two disks do not hang on one another.
func TestTwoDisks(t *testing.T) {
	a, b := disk.New(2), disk.New(2)
	write(t, a, 0, full('a'))
	write(t, b, 1, full('b'))
	checkSectors(t, "the one", a, full('a'), full(0))
	checkSectors(t, "the other", b, full(0), full('b'))
	checkSync(t, "the one", a, api.OK)
	checkWaits(t, "the other", b, 1)
	b.Crash(nil)
	checkSectors(t, "the one", a, full('a'), full(0))
	checkSectors(t, "the other, crashed", b, full(0), full(0))
	a.Fuse(0)
	checkLost(t, "the one, no power", a)
	write(t, b, 1, full('c'))
	checkSync(t, "the other", b, api.OK)
	b.Crash(nil)
	checkLost(t, "the one, the other crashed", a)
	checkSectors(t, "the other", b, full(0), full('c'))
	a.Crash(nil)
	checkSectors(t, "the one, power again", a, full('a'), full(0))
}

// P7.1: many writes are read, synced and told in good time, while many wait.
func TestManyWrites(t *testing.T) {
	const many = 300000
	d := disk.New(4096)
	for i := range many {
		write(t, d, i%4096, counted(i))
		if got, e := d.Read(i % 4096); got != counted(i) || e != api.OK {
			t.Fatalf("write %d: %x, error %d", i, got, e)
		}
	}
	checkWaits(t, "many", d, many)
	d.Crash(make([]uint8, many-1))
	checkWaits(t, "many, crashed", d, 0)
	for i := range 4096 {
		checkRead(t, "many, crashed", d, i, full(0))
	}
}
