package disk_test

import (
	"slices"
	"testing"

	"isogloss/api"
	"isogloss/disk"
)

// P7.2: the chapter's example: ten a's, and noughts.
func TestCrashWrittenOut(t *testing.T) {
	d := disk.New(1)
	write(t, d, 0, full('a'))
	d.Crash([]uint8{10})
	checkSectors(t, "ten a's", d, "aaaaaaaaaa"+full(0)[10:])
	checkWaits(t, "ten a's", d, 0)
}

// P7.2: what each fate makes of a write that stands alone.
func TestEachFate(t *testing.T) {
	old, b := counted(3), counted(100)
	for f := range 256 {
		n := f % 64
		if f == 255 {
			n = 64
		}
		d := disk.New(2)
		write(t, d, 0, old)
		checkSync(t, "old", d, api.OK)
		write(t, d, 0, b)
		d.Crash([]uint8{uint8(f)})
		checkSectors(t, "a fate", d, over(b, n, old), full(0))
		checkWaits(t, "a fate", d, 0)
		d.Crash([]uint8{255})
		checkSectors(t, "a fate, crashed again", d, over(b, n, old), full(0))
	}
}

// P7.2: the fates that stand at the edges, written out.
func TestFatesWrittenOut(t *testing.T) {
	for f, want := range map[uint8]string{
		0:   full('o'),
		1:   "n" + full('o')[1:],
		63:  full('n')[:63] + "o",
		64:  full('o'),
		65:  "n" + full('o')[1:],
		127: full('n')[:63] + "o",
		128: full('o'),
		129: "n" + full('o')[1:],
		192: full('o'),
		254: full('n')[:62] + "oo",
		255: full('n'),
	} {
		d := disk.New(1)
		write(t, d, 0, full('o'))
		checkSync(t, "old", d, api.OK)
		write(t, d, 0, full('n'))
		d.Crash([]uint8{f})
		checkSectors(t, "a fate", d, want)
	}
}

// P7.2: several writes of one sector: each is made over what those ahead of it left.
func TestFatesOfOneSector(t *testing.T) {
	write3 := func() *disk.Disk {
		d := disk.New(1)
		write(t, d, 0, full('o'))
		checkSync(t, "old", d, api.OK)
		write(t, d, 0, full('a'), full('b'), full('c'))
		return d
	}
	o := full('o')
	for _, c := range []struct {
		fates []uint8
		want  string
	}{
		{[]uint8{30, 20, 10}, full('c')[:10] + full('b')[:10] + full('a')[:10] + o[:34]},
		{[]uint8{10, 20, 30}, full('c')[:30] + o[:34]},
		{[]uint8{255, 20, 10}, full('c')[:10] + full('b')[:10] + full('a')[:44]},
		{[]uint8{255, 255, 10}, full('c')[:10] + full('b')[:54]},
		{[]uint8{10, 255, 20}, full('c')[:20] + full('b')[:44]},
		{[]uint8{10, 20, 255}, full('c')},
		{[]uint8{0, 20, 10}, full('c')[:10] + full('b')[:10] + o[:44]},
		{[]uint8{20, 0, 10}, full('c')[:10] + full('a')[:10] + o[:44]},
		{[]uint8{20, 10, 0}, full('b')[:10] + full('a')[:10] + o[:44]},
		{[]uint8{0, 0, 0}, o},
		{[]uint8{64, 128, 192}, o},
		{[]uint8{63, 64, 65}, "c" + full('a')[:62] + "o"},
		{[]uint8{254, 128, 1}, "c" + full('a')[:61] + "oo"},
		{[]uint8{255, 254, 63}, full('c')[:63] + "a"},
	} {
		d := write3()
		d.Crash(c.fates)
		checkSectors(t, "three of one sector", d, c.want)
		checkWaits(t, "three of one sector", d, 0)
	}
}

// P7.2: each two fates of the edges, of two writes of one sector.
func TestEachTwoFates(t *testing.T) {
	made := map[uint8]int{0: 0, 255: 64, 1: 1, 63: 63, 64: 0, 65: 1, 128: 0, 254: 62}
	for f, n := range made {
		for g, m := range made {
			d := disk.New(1)
			write(t, d, 0, counted(0))
			checkSync(t, "old", d, api.OK)
			write(t, d, 0, counted(70), counted(140))
			d.Crash([]uint8{f, g})
			checkSectors(t, "two fates", d, over(counted(140), m, over(counted(70), n, counted(0))))
		}
	}
}

// P7.2: fates go by the order of the writes, not by that of the sectors.
func TestFatesInTheOrderOfWrites(t *testing.T) {
	d := disk.New(4)
	write(t, d, 3, full('a'))
	write(t, d, 0, full('b'))
	write(t, d, 3, full('c'))
	write(t, d, 1, full('d'))
	write(t, d, 0, full('e'))
	d.Crash([]uint8{40, 30, 20, 255, 10})
	checkSectors(t, "in order", d,
		full('e')[:10]+full('b')[:20]+full(0)[:34],
		full('d'),
		full(0),
		full('c')[:20]+full('a')[:20]+full(0)[:24])
}

// P7.2: writes without a fate never were; fates without a write are nothing.
func TestFewerAndMoreFates(t *testing.T) {
	for n := range 8 {
		for _, fates := range [][]uint8{nil, {}, slices.Repeat([]uint8{255}, 3), slices.Repeat([]uint8{9}, 7), slices.Repeat([]uint8{255}, 1000)} {
			d := disk.New(8)
			want := slices.Repeat([]string{full(0)}, 8)
			for i := range n {
				write(t, d, i, counted(i+1))
				if i < len(fates) {
					k := int(fates[i])
					if k == 255 {
						k = 64
					}
					want[i] = over(counted(i+1), k, full(0))
				}
			}
			d.Crash(fates)
			checkSectors(t, "fates", d, want...)
			checkWaits(t, "fates", d, 0)
		}
	}
}

// P7.2: a crash counts only the writes that wait: those that were synced, refused or met their fates have no fate.
func TestOnlyWhatWaitsHasAFate(t *testing.T) {
	d := disk.New(3)
	write(t, d, 0, full('a'))
	checkSync(t, "a", d, api.OK)
	checkWrite(t, "refused", d, 3, full('x'), api.ErrArg)
	checkWrite(t, "refused", d, 1, "x", api.ErrArg)
	write(t, d, 1, full('b'))
	d.Crash([]uint8{5, 255})
	checkSectors(t, "one", d, full('a'), full('b')[:5]+full(0)[5:], full(0))
	write(t, d, 2, full('c'))
	d.Crash([]uint8{6, 255, 255})
	checkSectors(t, "one more", d, full('a'), full('b')[:5]+full(0)[5:], full('c')[:6]+full(0)[6:])
}

// P7.2: a crash where nothing waits, and one behind another, changes nothing.
func TestCrashOfNothing(t *testing.T) {
	d := disk.New(2)
	for _, fates := range [][]uint8{nil, {0}, {255}, {10, 20}} {
		d.Crash(fates)
		checkSectors(t, "new", d, full(0), full(0))
	}
	write(t, d, 0, full('a'))
	checkSync(t, "a", d, api.OK)
	write(t, d, 1, full('b'))
	for _, fates := range [][]uint8{{30}, nil, {0}, {255}, {10, 20}, {255, 255}} {
		d.Crash(fates)
		checkSectors(t, "crashed", d, full('a'), full('b')[:30]+full(0)[30:])
		checkWaits(t, "crashed", d, 0)
	}
}

// P7.2: a crash needs no fuse, and the power is there behind it.
func TestPowerBehindACrash(t *testing.T) {
	d := disk.New(1)
	for i := range 5 {
		write(t, d, 0, counted(i))
		checkRead(t, "written", d, 0, counted(i))
		d.Crash([]uint8{0})
		checkSectors(t, "crashed", d, full(0))
	}
	checkSync(t, "crashed", d, api.OK)
}

// P7.2: where the power is gone, what waited meets its fates.
func TestCrashWithoutPower(t *testing.T) {
	d := disk.New(2)
	d.Fuse(3)
	write(t, d, 0, full('a'))
	write(t, d, 1, full('b'))
	write(t, d, 0, full('c'))
	checkLost(t, "the end", d)
	checkWaits(t, "the end", d, 3)
	d.Crash([]uint8{255, 12, 3})
	checkSectors(t, "crashed", d, "ccc"+full('a')[3:], full('b')[:12]+full(0)[12:])
}

// P7.2: the fates that are handed in are left as they are, their spare room too, and aren't kept.
func TestFatesAreLeft(t *testing.T) {
	room := []uint8{10, 255, 64, 7, 8, 9}
	d := disk.New(3)
	for i := range 3 {
		write(t, d, i, full('a'))
	}
	d.Crash(room[:3])
	if !slices.Equal(room, []uint8{10, 255, 64, 7, 8, 9}) {
		t.Errorf("the fates are %v", room)
	}
	clear(room)
	checkSectors(t, "crashed", d, full('a')[:10]+full(0)[10:], full('a'), full(0))
	write(t, d, 2, full('b'))
	d.Crash(nil)
	checkSectors(t, "crashed with none", d, full('a')[:10]+full(0)[10:], full('a'), full(0))
}

// P7.2: what was read ahead of a crash stays what it was.
func TestWhatWasReadStays(t *testing.T) {
	d := disk.New(1)
	write(t, d, 0, counted(9))
	b, _ := d.Read(0)
	write(t, d, 0, full('x'))
	d.Crash([]uint8{20, 40})
	if b != counted(9) {
		t.Errorf("%x", b)
	}
}
