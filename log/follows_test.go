package log_test

import (
	"fmt"
	"math/rand/v2"
	"slices"
	"testing"

	"isogloss/api"
	"isogloss/crc"
	"isogloss/disk"
	"isogloss/log"
)

// synced stands in a row of records for a sync: no record has no bytes.
const synced = ""

// life is what one log was told: all records that may stand, and how many of them must.
type life struct {
	appended []string
	sure     int
}

// live lets a log on a disk make what stands in a row, till the power is gone; what stood already is told.
func live(t *testing.T, l *log.Log, stood []string, row []string) life {
	t.Helper()
	was := life{slices.Clone(stood), len(stood)}
	for _, r := range row {
		if r == synced {
			if l.Sync() != api.OK {
				return was
			}
			was.sure = len(was.appended)
			continue
		}
		e := l.Append(r)
		if e == api.ErrFull {
			continue
		}
		was.appended = append(was.appended, r)
		if e != api.OK {
			return was
		}
	}
	return was
}

// checkFollows holds what stands on a disk that a log left: it is opened again, and once more, with a crash ahead of it and without.
func checkFollows(t *testing.T, what string, d *disk.Disk, was life) []string {
	t.Helper()
	stands, _ := log.Stands(crc.Make(), allOf(t, d))
	_, got := checkOpened(t, d)
	checkRecords(t, what+", what stands", got, stands)
	if len(got) < was.sure || len(got) > len(was.appended) || !slices.Equal(got, was.appended[:len(got)]) {
		t.Errorf("%s: %d records, %d of %d that were appended are sure: %.300q", what, len(got), was.sure, len(was.appended), got)
	}
	checkDisk(t, what, d, written(got...))
	checkOpen(t, what+", once more", d, got...)
	d.Crash([]uint8{3, 200, 255})
	checkOpen(t, what+", crashed", d, got...)
	return got
}

// rows are some rows of appends and syncs.
func rows() [][]string {
	return [][]string{
		{"a", synced, "b", synced, "c"},
		{"a", "b", "c", synced, "d", "e"},
		{counted(1, 58), synced, counted(2, 58), counted(3, 58), synced, counted(4, 58)},
		{counted(1, 50), counted(2, 200), synced, counted(3, 10), synced, counted(4, 90), "x"},
		{counted(1, 30), synced, counted(2, 300), synced},
		{noughts(40), synced, noughts(100), "a", noughts(60)},
		{counted(1, 9), synced, written("a", "b"), written(written("c")), synced, counted(2, 64)},
		{counted(1, 3), synced, counted(2, 55), written("a"), counted(3, 90), synced, synced, "z"},
		{synced, counted(1, 400), counted(2, 50), synced, counted(3, 30)},
	}
}

// writesOf is how many writes a row makes.
func writesOf(t *testing.T, row []string) int {
	t.Helper()
	d := disk.New(9)
	l, _ := checkOpened(t, d)
	live(t, l, nil, slices.DeleteFunc(slices.Clone(row), func(r string) bool { return r == synced }))
	return d.Waits()
}

// P8.3, P2: wherever the power goes, and whatever one fate all writes meet, or one of them, what follows holds.
func TestFollowsEachFuse(t *testing.T) {
	for n, row := range rows() {
		for fuse := range writesOf(t, row) + 2 {
			for _, f := range []uint8{0, 255, 1, 2, 5, 6, 7, 8, 20, 40, 57, 58, 59, 63, 64, 65, 127, 128, 200, 254} {
				for only := -1; only < 7; only++ {
					for _, others := range []uint8{0, 255} {
						d := disk.New(9)
						l, _ := checkOpened(t, d)
						d.Fuse(fuse)
						was := live(t, l, nil, row)
						fates := slices.Repeat([]uint8{others}, d.Waits())
						for i := range fates {
							if only == -1 || only == i {
								fates[i] = f
							}
						}
						d.Crash(fates)
						checkFollows(t, fmt.Sprintf("row %d, fuse %d, fate %d at %d, others %d", n, fuse, f, only, others), d, was)
					}
				}
			}
		}
	}
}

// P8.3, P2: with fates at random, through several lives, of which each opens what the one ahead of it left, and may lose the power as it does.
func TestFollowsThroughLives(t *testing.T) {
	r := rand.New(rand.NewPCG(8, 3))
	for n := range 1500 {
		d := disk.New(1 + r.IntN(12))
		var stood []string
		for range 5 {
			d.Fuse(r.IntN(14) - 3)
			l, _, e := log.Open(crc.Make(), d)
			was := life{stood, len(stood)}
			if e == api.OK {
				was = live(t, l, stood, randomRow(r))
			}
			d.Crash(randomFates(r, d.Waits()))
			if r.IntN(3) == 0 {
				// The next life finds the disk as the crash left it.
				left, _ := slowStands([]byte(allOf(t, d)))
				if len(left) < was.sure || !slices.Equal(left, was.appended[:len(left)]) {
					t.Errorf("lives %d: %d records, %d are sure", n, len(left), was.sure)
				}
				stood = left
				continue
			}
			stood = checkFollows(t, fmt.Sprintf("lives %d", n), d, was)
		}
	}
}

// randomRow is a row of appends and syncs at random.
func randomRow(r *rand.Rand) []string {
	var row []string
	for range r.IntN(10) {
		switch r.IntN(8) {
		case 0, 1, 2:
			row = append(row, synced)
		case 3:
			row = append(row, noughts(1+r.IntN(150)))
		case 4:
			row = append(row, written("within", randomBytes(r, 1+r.IntN(60))))
		default:
			row = append(row, randomBytes(r, 1+r.IntN(150)))
		}
	}
	return row
}

// randomFates are fates for about so many writes: fewer, as many, or more.
func randomFates(r *rand.Rand, writes int) []uint8 {
	edges := []uint8{0, 255, 255, 1, 2, 6, 63, 64, 128}
	fates := make([]uint8, max(0, writes+r.IntN(4)-1))
	for i := range fates {
		fates[i] = uint8(r.IntN(256))
		if r.IntN(2) == 0 {
			fates[i] = edges[r.IntN(len(edges))]
		}
	}
	return fates
}

// P8.3: a record of which no sector but the first was torn, in noughts, stands as it was appended.
func TestTornNoughtsStand(t *testing.T) {
	for f := 6; f < 64; f++ {
		d := disk.New(3)
		l := checkOpen(t, "new", d)
		r := counted(1, f-6) + noughts(90)
		appendAll(t, l, r)
		d.Crash([]uint8{uint8(f)})
		checkOpen(t, "torn in noughts", d, r)
	}
}

// P8.3: a record's last sector that a later record wrote again makes it whole.
func TestLaterRecordMakesWhole(t *testing.T) {
	d := disk.New(4)
	l := checkOpen(t, "new", d)
	a, b := counted(1, 90), counted(2, 10)
	appendAll(t, l, a, b)
	checkWaits(t, "both", d, 3)
	d.Crash([]uint8{255, 0, 255})
	checkOpen(t, "both", d, a, b)
}

// P8.3: what a tear left behind the end never stands behind a record that is appended then.
func TestLeftoversNeverStand(t *testing.T) {
	d := disk.New(6)
	l := checkOpen(t, "new", d)
	appendAll(t, l, counted(1, 58), counted(2, 58), "left", "over")
	d.Crash([]uint8{255, 0, 255, 255})
	l = checkOpen(t, "torn", d, counted(1, 58))
	appendAll(t, l, counted(3, 58))
	checkSync(t, "in its place", l, api.OK)
	d.Crash(nil)
	checkOpen(t, "in its place", d, counted(1, 58), counted(3, 58))
}

// P8.3, P2: a tear may leave what stands by chance: what was synced is told ahead of it, and opened once more the log has the same.
func TestTornByChance(t *testing.T) {
	sure, behind := counted(1, 10), counted(2, 40)
	// Of its first sector only the length is made: noughts stand for the sum, and for the bytes ahead of the second one.
	chance := summing("\x00\x64" + noughts(42) + counted(3, 54))[2:]
	appended := counted(4, 42) + chance[42:]
	d := disk.New(5)
	l := checkOpen(t, "new", d)
	appendAll(t, l, sure)
	checkSync(t, "sure", l, api.OK)
	appendAll(t, l, appended, behind)
	checkWaits(t, "by chance", d, 4)
	d.Crash([]uint8{18, 0, 255, 255})
	checkDisk(t, "by chance", d, written(sure, chance, behind))
	for range 3 {
		l = checkOpen(t, "by chance", d, sure, chance, behind)
		d.Crash([]uint8{255, 255})
	}
	appendAll(t, l, "more")
	checkSync(t, "more", l, api.OK)
	d.Crash(nil)
	checkOpen(t, "more", d, sure, chance, behind, "more")
}
