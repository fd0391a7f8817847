package disk_test

import (
	"math/rand/v2"
	"testing"

	"isogloss/api"
	"isogloss/disk"
)

// P7.3: what was synced stays, through however many crashes.
func TestSyncedStays(t *testing.T) {
	d := disk.New(4)
	for i := range 4 {
		write(t, d, i, full('x'), counted(i))
	}
	checkSync(t, "all", d, api.OK)
	for f := range 256 {
		d.Crash([]uint8{uint8(f), uint8(f), 255})
		checkSectors(t, "crashed", d, counted(0), counted(1), counted(2), counted(3))
	}
}

// P7.3: what wasn't synced never was, if no fate lets it be.
func TestNotSynced(t *testing.T) {
	d := disk.New(2)
	write(t, d, 0, counted(0))
	checkSync(t, "the first", d, api.OK)
	write(t, d, 0, counted(1), counted(2))
	write(t, d, 1, counted(3))
	d.Crash(nil)
	checkSectors(t, "crashed", d, counted(0), full(0))
}

// P7.3: other sectors than those of which writes waited stay, whatever the fates are.
func TestOtherSectorsStay(t *testing.T) {
	r := rand.New(rand.NewPCG(7, 1))
	for range 200 {
		d := disk.New(9)
		for i := range 9 {
			write(t, d, i, counted(i))
		}
		checkSync(t, "all", d, api.OK)
		at := r.IntN(9)
		var fates []uint8
		for range 5 {
			write(t, d, at, randomSector(r))
			fates = append(fates, uint8(r.IntN(256)))
		}
		d.Crash(fates)
		for i := range 9 {
			if i != at {
				checkRead(t, "another sector", d, i, counted(i))
			}
		}
	}
}

// P7.3: a sector over which writes waited keeps what is sure behind the bytes that they made.
func TestTornSectorKeepsItsEnd(t *testing.T) {
	for f := range 255 {
		d := disk.New(1)
		write(t, d, 0, counted(5))
		checkSync(t, "old", d, api.OK)
		write(t, d, 0, full('a'), full('b'))
		d.Crash([]uint8{uint8(f), uint8(f / 2)})
		got, e := d.Read(0)
		most := max(f%64, f/2%64)
		if e != api.OK || got[most:] != counted(5)[most:] {
			t.Errorf("fate %d: %x", f, got)
		}
	}
}

// P7.3: what a crash left is sure: it stays through the next ones, and is what they tear.
func TestWhatACrashLeftIsSure(t *testing.T) {
	d := disk.New(1)
	want := full(0)
	for i := range 50 {
		n := i * 7 % 64
		write(t, d, 0, counted(i))
		d.Crash([]uint8{uint8(n)})
		want = over(counted(i), n, want)
		checkSectors(t, "crashed", d, want)
		d.Crash([]uint8{255})
		checkSectors(t, "crashed again", d, want)
	}
}

// P7.3: a sync makes sure all writes, of which the last one of a sector is what it has.
func TestSyncOfSeveral(t *testing.T) {
	d := disk.New(3)
	write(t, d, 1, full('a'))
	write(t, d, 2, full('b'))
	write(t, d, 1, full('c'))
	checkSync(t, "three", d, api.OK)
	d.Crash([]uint8{1, 2, 3})
	checkSectors(t, "crashed", d, full(0), full('c'), full('b'))
	write(t, d, 1, full('d'))
	checkSync(t, "one more", d, api.OK)
	write(t, d, 2, full('e'))
	d.Crash(nil)
	checkSectors(t, "crashed again", d, full(0), full('d'), full('b'))
}

// P7.3: where the power was gone a sync makes nothing sure.
func TestLostSync(t *testing.T) {
	d := disk.New(1)
	write(t, d, 0, full('a'))
	d.Fuse(0)
	checkSync(t, "no power", d, api.ErrLost)
	checkWaits(t, "no power", d, 1)
	d.Crash(nil)
	checkSectors(t, "crashed", d, full(0))
}
