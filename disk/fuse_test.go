package disk_test

import (
	"testing"

	"isogloss/api"
	"isogloss/disk"
)

// P7.1: behind as many writes as the fuse says the power is gone.
func TestFuse(t *testing.T) {
	for n := range 6 {
		d := disk.New(3)
		d.Fuse(n)
		for i := range n {
			checkRead(t, "ahead of the end", d, 2, full(0))
			checkSync(t, "ahead of the end", d, api.OK)
			write(t, d, i%2, counted(i))
		}
		checkLost(t, "the end", d)
	}
}

// P7.1: a fuse counts from the call on, not the writes ahead of it.
func TestFuseCountsFromItsCall(t *testing.T) {
	d := disk.New(2)
	write(t, d, 0, full('a'), full('b'), full('c'))
	d.Fuse(2)
	checkWaits(t, "three", d, 3)
	write(t, d, 0, full('d'))
	checkSectors(t, "one more", d, full('d'), full(0))
	write(t, d, 1, full('e'))
	checkLost(t, "two more", d)
	checkWaits(t, "two more", d, 5)
}

// P7.1: only writes that are made count: no reads, syncs, crashes of the fuse's own, nor calls that are refused.
func TestWhatCounts(t *testing.T) {
	d := disk.New(2)
	d.Fuse(1)
	for range 3 {
		checkRead(t, "a fuse of 1", d, 0, full(0))
		checkNoRead(t, "a fuse of 1", d, 2, api.ErrArg)
		checkSync(t, "a fuse of 1", d, api.OK)
		for _, b := range badBytes() {
			checkWrite(t, "a fuse of 1", d, 0, b, api.ErrArg)
		}
		for _, i := range badSectors(2) {
			checkWrite(t, "a fuse of 1", d, i, full('a'), api.ErrArg)
		}
		checkWaits(t, "a fuse of 1", d, 0)
	}
	write(t, d, 1, full(0))
	checkLost(t, "one write", d)
}

// P7.1: below 0 there is no fuse, whether there was one or not.
func TestNoFuse(t *testing.T) {
	for _, n := range []int{-1, -2, -64, -1 << 31, -1<<32 + 1, -1<<63 + 1, -1 << 63} {
		d := disk.New(1)
		for range 2 {
			d.Fuse(n)
			for i := range 20 {
				write(t, d, 0, counted(i))
			}
			checkSync(t, "no fuse", d, api.OK)
			checkSectors(t, "no fuse", d, counted(19))
			d.Fuse(1)
		}
		write(t, d, 0, full('z'))
		checkLost(t, "a fuse of 1", d)
	}
}

// P7.1: a second fuse ahead of the first one's end is the one that holds, greater or less.
func TestSecondFuse(t *testing.T) {
	for first := 1; first < 5; first++ {
		for second := range 7 {
			for between := range first {
				d := disk.New(2)
				d.Fuse(first)
				for i := range between {
					write(t, d, 0, counted(i))
				}
				d.Fuse(second)
				for i := range second {
					checkSync(t, "a second fuse", d, api.OK)
					write(t, d, 1, counted(i))
				}
				checkLost(t, "a second fuse", d)
			}
		}
	}
}

// P7.1: where the power is gone a fuse does nothing: neither brings it back, nor is there behind a crash.
func TestFuseWithoutPower(t *testing.T) {
	for _, n := range []int{-1, 0, 1, 100, -1 << 63, 1<<63 - 1} {
		d := disk.New(2)
		write(t, d, 0, full('a'))
		d.Fuse(0)
		d.Fuse(n)
		checkLost(t, "a fuse without power", d)
		d.Fuse(-n)
		checkLost(t, "two fuses without power", d)
		d.Crash([]uint8{255})
		for i := range 120 {
			write(t, d, 1, counted(i))
		}
		checkSync(t, "power again", d, api.OK)
		checkSectors(t, "power again", d, full('a'), counted(119))
	}
}

// P7.1: a great fuse is one, too.
func TestGreatFuse(t *testing.T) {
	for _, n := range []int{1000, 1<<31 - 1, 1 << 31, 1 << 32, 1<<63 - 1} {
		d := disk.New(1)
		d.Fuse(n)
		for i := range 999 {
			write(t, d, 0, counted(i))
		}
		checkSectors(t, "a great fuse", d, counted(998))
		if n == 1000 {
			write(t, d, 0, full('a'))
			checkLost(t, "its end", d)
		}
	}
}

// P7.1: a sync ahead of the fuse's end makes sure what was written; what is written as it ends waits.
func TestWhatWaitsAtTheEnd(t *testing.T) {
	d := disk.New(3)
	d.Fuse(3)
	write(t, d, 0, full('a'))
	write(t, d, 1, full('b'))
	checkSync(t, "two", d, api.OK)
	write(t, d, 2, full('c'))
	checkLost(t, "three", d)
	checkWaits(t, "three", d, 1)
	d.Crash([]uint8{7})
	checkSectors(t, "crashed", d, full('a'), full('b'), over(full('c'), 7, full(0)))
}

// P7.2: a crash brings the power back, and takes the fuse away, also one whose end didn't come.
func TestCrashTakesTheFuseAway(t *testing.T) {
	for n := range 5 {
		for made := range n + 1 {
			d := disk.New(1)
			d.Fuse(n)
			for i := range made {
				write(t, d, 0, counted(i))
			}
			d.Crash(nil)
			checkSectors(t, "crashed", d, full(0))
			for i := range 9 {
				write(t, d, 0, counted(i))
				checkRead(t, "no fuse", d, 0, counted(i))
			}
			checkSync(t, "no fuse", d, api.OK)
			checkWaits(t, "no fuse", d, 0)
		}
	}
}

// P7.2: a fuse behind a crash is a new one.
func TestFuseBehindACrash(t *testing.T) {
	d := disk.New(1)
	for n := range 5 {
		d.Fuse(n)
		for i := range n {
			write(t, d, 0, counted(i))
		}
		checkLost(t, "its end", d)
		d.Crash(nil)
		checkSectors(t, "crashed", d, full(0))
	}
}
