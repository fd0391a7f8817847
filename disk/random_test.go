package disk_test

import (
	"math/rand/v2"
	"slices"
	"testing"

	"isogloss/disk"
)

// randomFates are fates for about so many writes: fewer, as many, or more.
func randomFates(r *rand.Rand, writes int) []uint8 {
	edges := []uint8{0, 255, 1, 63, 64, 65, 127, 128, 192, 254}
	fates := make([]uint8, r.IntN(writes+3))
	for i := range fates {
		fates[i] = uint8(r.IntN(256))
		if r.IntN(2) == 0 {
			fates[i] = edges[r.IntN(len(edges))]
		}
	}
	return fates
}

// randomCall makes one call at random of a disk and of the slow one, and holds what they answer.
func randomCall(t *testing.T, r *rand.Rand, d *disk.Disk, slow *slowDisk) {
	t.Helper()
	i := r.IntN(slow.sectors+2) - 1
	switch r.IntN(16) {
	case 0, 1:
		checkSync(t, "at random", d, slow.sync())
	case 2, 3:
		fates := randomFates(r, len(slow.waiting))
		kept := slices.Clone(fates)
		slow.crash(fates)
		d.Crash(fates)
		if !slices.Equal(fates, kept) {
			t.Errorf("the fates are %v, not %v any more", fates, kept)
		}
	case 4:
		n := r.IntN(12) - 2
		slow.setFuse(n)
		d.Fuse(n)
	case 5:
		b := randomSector(r)[:r.IntN(64)]
		checkWrite(t, "at random", d, i, b, slow.write(i, b))
	default:
		b := randomSector(r)
		checkWrite(t, "at random", d, i, b, slow.write(i, b))
	}
}

// P7.1, P7.2, P7.3: many calls at random, held against the slow disk behind each one.
func TestAtRandom(t *testing.T) {
	r := rand.New(rand.NewPCG(7, 2))
	for range 400 {
		n := r.IntN(8) - 1
		d, slow := disk.New(n), newSlow(n)
		for range 150 {
			randomCall(t, r, d, slow)
			checkSame(t, "at random", d, slow)
		}
	}
}

// P7.1, P7.2, P7.3: so on a disk of many sectors, at which many writes wait.
func TestAtRandomOfMany(t *testing.T) {
	r := rand.New(rand.NewPCG(7, 3))
	d, slow := disk.New(5000), newSlow(5000)
	for range 20 {
		for range 300 {
			i, b := r.IntN(4096), randomSector(r)
			if r.IntN(3) == 0 {
				i %= 7
			}
			checkWrite(t, "of many", d, i, b, slow.write(i, b))
		}
		if r.IntN(2) == 0 {
			fates := randomFates(r, 300)
			slow.crash(fates)
			d.Crash(fates)
		} else {
			checkSync(t, "of many", d, slow.sync())
		}
		for i := range 4096 {
			checkRead(t, "of many", d, i, string(slow.sure[i*64:i*64+64]))
		}
	}
}
