package log_test

import (
	"testing"

	"isogloss/api"
	"isogloss/disk"
	"isogloss/log"
)

// P8.2: behind each fuse an append that has more writes is lost, and the log over; one that has as many isn't.
func TestFuseOfAnAppend(t *testing.T) {
	for _, ahead := range []int{1, 40, 58, 60} {
		for _, n := range []int{1, 20, 60, 122, 500} {
			writes := (ahead+6+n+5)/64 - (ahead+6)/64 + 1
			for fuse := range writes + 2 {
				d := disk.New(12)
				l := checkOpen(t, "new", d)
				a, r := counted(1, ahead), counted(2, n)
				appendAll(t, l, a)
				checkSync(t, "ahead", l, api.OK)
				d.Fuse(fuse)
				if fuse >= writes {
					appendAll(t, l, r)
					checkWaits(t, "power enough", d, writes)
					continue
				}
				checkAppend(t, "a fuse", l, r, api.ErrLost)
				checkLog(t, "a fuse", l, ahead+6, true)
				checkWaits(t, "a fuse", d, fuse)
				checkOver(t, "a fuse", l, d)
			}
		}
	}
}

// P8.2: where the power goes with an append's last write it is appended; the next call is lost, whichever it is.
func TestFuseOfTheLastWrite(t *testing.T) {
	for call := range 3 {
		d := disk.New(4)
		l := checkOpen(t, "new", d)
		d.Fuse(2)
		r := counted(0, 100)
		appendAll(t, l, r)
		checkLog(t, "the last write", l, 106, false)
		switch call {
		case 0:
			checkAppend(t, "the next call", l, "a", api.ErrLost)
		case 1:
			checkSync(t, "the next call", l, api.ErrLost)
		case 2:
			checkNoOpen(t, "the next call", d)
			checkLog(t, "another log's call", l, 106, false)
			continue
		}
		checkLog(t, "the next call", l, 106, true)
		checkOver(t, "the next call", l, d)
	}
}

// P8.2: where the power is gone a sync is lost, makes nothing sure, and the log is over.
func TestSyncWithoutPower(t *testing.T) {
	d := disk.New(4)
	l := checkOpen(t, "new", d)
	appendAll(t, l, "a", "b")
	d.Fuse(0)
	checkSync(t, "no power", l, api.ErrLost)
	checkLog(t, "no power", l, 14, true)
	checkOver(t, "no power", l, d)
	checkWaits(t, "no power", d, 2)
	d.Crash(nil)
	checkOpen(t, "power again", d)
}

// P8.2: an append and a sync make no other writes than those of the sectors that are touched: a fuse counts each.
func TestWhatAFuseCounts(t *testing.T) {
	d := disk.New(4)
	l := checkOpen(t, "new", d)
	d.Fuse(5)
	for i := range 5 {
		checkAppend(t, "wrong ones", l, "", api.ErrLong)
		checkAppend(t, "wrong ones", l, counted(0, longest), api.ErrFull)
		checkSync(t, "five", l, api.OK)
		appendAll(t, l, counted(i, 3))
	}
	checkWaits(t, "five", d, 1)
	checkAppend(t, "one more", l, "x", api.ErrLost)
	checkLog(t, "one more", l, 45, true)
	d.Crash([]uint8{255})
	checkOpen(t, "opened again", d, counted(0, 3), counted(1, 3), counted(2, 3), counted(3, 3), counted(4, 3))
}

// P8.2: what is wrong with a record is asked ahead of the disk: a log that didn't meet it without power isn't over.
func TestWrongRecordsWithoutPower(t *testing.T) {
	d := disk.New(2)
	l := checkOpen(t, "new", d)
	appendAll(t, l, "a")
	d.Fuse(0)
	for range 2 {
		checkAppend(t, "no bytes", l, "", api.ErrLong)
		checkAppend(t, "too many", l, counted(0, longest+1), api.ErrLong)
		checkAppend(t, "no room", l, counted(0, 200), api.ErrFull)
		checkLog(t, "wrong ones", l, 7, false)
	}
	checkAppend(t, "a right one", l, "b", api.ErrLost)
	checkLog(t, "a right one", l, 7, true)
	checkOver(t, "a right one", l, d)
}

// P8.2: a log that is over stays so when the power is there again, and leaves the disk as it is.
func TestOverStays(t *testing.T) {
	for call := range 2 {
		d := disk.New(5)
		old := checkOpen(t, "new", d)
		appendAll(t, old, "a", counted(0, 70))
		checkSync(t, "two", old, api.OK)
		d.Fuse(0)
		if call == 0 {
			checkSync(t, "no power", old, api.ErrLost)
		} else {
			checkAppend(t, "no power", old, "b", api.ErrLost)
		}
		d.Crash(nil)
		checkOver(t, "power again", old, d)
		checkDisk(t, "power again", d, written("a", counted(0, 70)))
		l := checkOpen(t, "opened again", d, "a", counted(0, 70))
		appendAll(t, l, "c")
		checkOver(t, "opened again", old, d)
		checkLog(t, "the old one", old, 83, true)
		checkLog(t, "the new one", l, 90, false)
		checkSync(t, "the new one", l, api.OK)
		checkDisk(t, "the new one", d, written("a", counted(0, 70), "c"))
	}
}

// R1: a log that no Open made is over.
func TestNoOpen(t *testing.T) {
	l := &log.Log{}
	checkAppend(t, "not opened", l, "a", api.ErrLost)
	checkAppend(t, "not opened", l, "", api.ErrLost)
	checkSync(t, "not opened", l, api.ErrLost)
	checkLog(t, "not opened", l, 0, true)
}
