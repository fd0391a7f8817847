package log_test

import (
	"slices"
	"strings"
	"testing"

	"isogloss/api"
	"isogloss/disk"
)

// P8.2: the chapter's example, on the disk.
func TestAppendWrittenOut(t *testing.T) {
	d := disk.New(2)
	l := checkOpen(t, "new", d)
	appendAll(t, l, "ab")
	checkDisk(t, "ab", d, "\x00\x02\x14\xcb\x47\x2eab")
	checkLog(t, "ab", l, 8, false)
	appendAll(t, l, "c")
	checkDisk(t, "c", d, "\x00\x02\x14\xcb\x47\x2eab\x00\x01\x01\x50\x5b\x9bc")
	checkLog(t, "c", l, 15, false)
}

// P8.2: records of all lengths, behind one of each length up to two sectors: the bytes, the end, and how many sectors are written.
func TestAppendBehind(t *testing.T) {
	for ahead := 1; ahead < 130; ahead++ {
		for _, n := range []int{1, 2, 10, 51, 58, 59, 64, 122, 123, 200, longest} {
			d := disk.New(70)
			l := checkOpen(t, "new", d)
			a, r := counted(1, ahead), counted(2, n)
			appendAll(t, l, a)
			checkSync(t, "ahead", l, api.OK)
			appendAll(t, l, r)
			checkDisk(t, "appended", d, written(a, r))
			first, last := (ahead+6)/64, (ahead+6+n+5)/64
			checkWaits(t, "appended", d, last-first+1)
			checkLog(t, "appended", l, ahead+n+12, false)
			if ahead%16 == 0 {
				checkOpen(t, "opened again", d, a, r)
			}
		}
	}
}

// P8.2: many records, up to the last byte of a disk of the most sectors.
func TestAppendMany(t *testing.T) {
	d := disk.New(5000)
	l := checkOpen(t, "new", d)
	var records []string
	for i := 0; l.End()+6+longest <= 4096*64; i++ {
		records = append(records, counted(i, 1+i*613%longest))
		appendAll(t, l, records[i])
	}
	records = append(records, counted(0, 4096*64-l.End()-6))
	appendAll(t, l, records[len(records)-1])
	checkLog(t, "full", l, 4096*64, false)
	checkAppend(t, "full", l, "a", api.ErrFull)
	checkDisk(t, "full", d, written(records...))
	checkSync(t, "full", l, api.OK)
	d.Crash(nil)
	checkOpen(t, "full", d, records...)
}

// P8.2: a record is from 1 to MaxMessage bytes long; else nothing is written.
func TestAppendLengths(t *testing.T) {
	d := disk.New(200)
	l := checkOpen(t, "new", d)
	appendAll(t, l, "ab")
	checkSync(t, "ab", l, api.OK)
	for _, n := range []int{0, longest + 1, longest + 2, 4096, 8000, 1 << 16, 1<<16 + 1, 1<<16 + 5} {
		checkAppend(t, "a wrong length", l, strings.Repeat("a", n), api.ErrLong)
		checkLog(t, "a wrong length", l, 8, false)
		checkWaits(t, "a wrong length", d, 0)
		checkDisk(t, "a wrong length", d, written("ab"))
	}
	least, most := "a", counted(0, longest)
	appendAll(t, l, least, most, least)
	checkDisk(t, "right lengths", d, written("ab", least, most, least))
	checkOpen(t, "right lengths", d, "ab", least, most, least)
}

// P8.2: a record may go up to the last byte of the disk, and no further.
func TestAppendUpToTheEnd(t *testing.T) {
	for sectors := 1; sectors < 6; sectors++ {
		for ahead := 1; ahead < 40; ahead++ {
			d := disk.New(sectors)
			l := checkOpen(t, "new", d)
			a := counted(1, ahead)
			appendAll(t, l, a)
			checkSync(t, "ahead", l, api.OK)
			room := sectors*sector - l.End() - 6
			for more := 1; more < 70; more++ {
				checkAppend(t, "beyond", l, counted(2, room+more), api.ErrFull)
			}
			checkLog(t, "beyond", l, ahead+6, false)
			checkWaits(t, "beyond", d, 0)
			checkDisk(t, "beyond", d, written(a))
			appendAll(t, l, counted(3, room))
			checkLog(t, "up to the end", l, sectors*sector, false)
			checkDisk(t, "up to the end", d, written(a, counted(3, room)))
			checkAppend(t, "full", l, "x", api.ErrFull)
			checkAppend(t, "full", l, "", api.ErrLong)
			checkAppend(t, "full", l, counted(0, longest+1), api.ErrLong)
			checkSync(t, "full", l, api.OK)
			checkOpen(t, "full", d, a, counted(3, room))
		}
	}
}

// P8.2: where less than a record's head has room, none has.
func TestAppendLittleRoom(t *testing.T) {
	for left := range 10 {
		d := disk.New(1)
		l := checkOpen(t, "new", d)
		a := counted(0, 58-left)
		appendAll(t, l, a)
		if left < 7 {
			checkAppend(t, "little room", l, "x", api.ErrFull)
			checkLog(t, "little room", l, 64-left, false)
			checkOpen(t, "little room", d, a)
			continue
		}
		appendAll(t, l, counted(1, left-6))
		checkOpen(t, "just room", d, a, counted(1, left-6))
	}
}

// P8.2: one too long for what is left doesn't take the room of those behind it.
func TestAppendBehindFull(t *testing.T) {
	d := disk.New(2)
	l := checkOpen(t, "new", d)
	appendAll(t, l, counted(0, 50))
	checkAppend(t, "too long", l, counted(1, 67), api.ErrFull)
	checkAppend(t, "too long", l, counted(1, longest), api.ErrFull)
	appendAll(t, l, counted(2, 30))
	checkAppend(t, "too long", l, counted(1, 31), api.ErrFull)
	appendAll(t, l, counted(3, 30))
	checkOpen(t, "what had room", d, counted(0, 50), counted(2, 30), counted(3, 30))
}

// P8.2: a disk of no sectors has room for nothing; its log syncs.
func TestNoSectors(t *testing.T) {
	d := disk.New(0)
	l := checkOpen(t, "no sectors", d)
	for _, n := range rightLengths() {
		checkAppend(t, "no sectors", l, counted(0, n), api.ErrFull)
	}
	checkAppend(t, "no sectors", l, "", api.ErrLong)
	checkAppend(t, "no sectors", l, counted(0, longest+1), api.ErrLong)
	checkSync(t, "no sectors", l, api.OK)
	checkLog(t, "no sectors", l, 0, false)
}

// P8.2: the sectors that a record touches are written in order, each once, as crashes in which only the first ones were made tell.
func TestAppendWritesInOrder(t *testing.T) {
	for _, ahead := range []int{1, 20, 57, 58, 59, 100} {
		a, r := counted(1, ahead), counted(2, 300)
		whole := filled(8, written(a, r))
		first, last := (ahead+6)/64, (ahead+6+305)/64
		for made := 0; made <= last-first+1; made++ {
			d := disk.New(8)
			l := checkOpen(t, "new", d)
			appendAll(t, l, a)
			checkSync(t, "ahead", l, api.OK)
			appendAll(t, l, r)
			checkWaits(t, "in order", d, last-first+1)
			d.Crash(slices.Repeat([]uint8{255}, made))
			cut := max((first+made)*sector, ahead+6)
			checkDisk(t, "in order", d, whole[:min(cut, len(whole))])
		}
		for only := range last - first + 1 {
			d := disk.New(8)
			l := checkOpen(t, "new", d)
			appendAll(t, l, a)
			checkSync(t, "ahead", l, api.OK)
			appendAll(t, l, r)
			d.Crash(append(make([]uint8, only), 255))
			want := []byte(filled(8, written(a)))
			at := (first + only) * sector
			copy(want[at:at+sector], whole[at:])
			checkDisk(t, "one alone", d, string(want))
		}
	}
}

// P8.2: a sector that a record touches is written, also if it is the same then: what it has of the record are noughts.
func TestAppendWritesNoughts(t *testing.T) {
	for _, n := range []int{58, 59, 122, 123, 200} {
		d := disk.New(5)
		l := checkOpen(t, "new", d)
		appendAll(t, l, noughts(n))
		checkWaits(t, "noughts", d, (n+5)/64+1)
		checkDisk(t, "noughts", d, written(noughts(n)))
	}
}

// P8.2: what stands ahead in the first sector stays, whatever fate the write meets.
func TestWhatStandsAheadStays(t *testing.T) {
	a := counted(1, 20)
	for f := range 256 {
		for _, n := range []int{1, 32, 33, 200} {
			d := disk.New(6)
			l := checkOpen(t, "new", d)
			appendAll(t, l, a)
			checkSync(t, "ahead", l, api.OK)
			r := counted(2, n)
			appendAll(t, l, r)
			d.Crash([]uint8{uint8(f)})
			made := f % 64
			if f == 255 {
				made = 64
			}
			want := written(a, r)
			checkDisk(t, "torn", d, want[:min(max(made, 26), len(want))])
		}
	}
}

// P8.2: records of one sector each write it once; all of them wait till a sync.
func TestAppendsOfOneSector(t *testing.T) {
	d := disk.New(3)
	l := checkOpen(t, "new", d)
	for i := range 8 {
		appendAll(t, l, counted(i, 2))
		checkWaits(t, "of one sector", d, i+1)
	}
	checkDisk(t, "of one sector", d, written(counted(0, 2), counted(1, 2), counted(2, 2), counted(3, 2), counted(4, 2), counted(5, 2), counted(6, 2), counted(7, 2)))
	d.Crash([]uint8{0, 0, 255, 20})
	checkOpen(t, "the third one's", d, counted(0, 2), counted(1, 2), counted(2, 2))
}

// P8.2: what is appended waits; behind a sync nothing does, and it is sure.
func TestSync(t *testing.T) {
	d := disk.New(10)
	l := checkOpen(t, "new", d)
	checkSync(t, "nothing", l, api.OK)
	appendAll(t, l, "a", counted(0, 100))
	checkWaits(t, "ahead of a sync", d, 3)
	checkSync(t, "two", l, api.OK)
	checkWaits(t, "behind it", d, 0)
	checkLog(t, "behind it", l, 113, false)
	checkSync(t, "nothing more", l, api.OK)
	appendAll(t, l, "b")
	checkWaits(t, "one more", d, 1)
	if s := sureOf(t, d); s != filled(10, written("a", counted(0, 100))) {
		t.Errorf("other bytes are sure than those that were synced: %x", s)
	}
	checkOpen(t, "what was synced", d, "a", counted(0, 100))
}

// P8.2: what wasn't synced never was, if no fate lets it be.
func TestNotSynced(t *testing.T) {
	d := disk.New(4)
	l := checkOpen(t, "new", d)
	appendAll(t, l, "a", counted(0, 100))
	d.Crash(nil)
	checkOpen(t, "crashed", d)
}

// P8.2: behind a log that was opened with records, with other bytes behind them, appends go on at its end.
func TestAppendToOpened(t *testing.T) {
	for _, n := range []int{2, 52, 57, 58, 59, 120, 122} {
		a, b := counted(4, n), counted(5, 70)
		for _, behind := range []string{"", "x", counted(0, 200), written("old")[1:], "\x00" + written("old", counted(8, 90))} {
			d := diskOf(t, 6, written(a)+behind)
			l := checkOpen(t, "opened", d, a)
			appendAll(t, l, b)
			checkDisk(t, "appended", d, written(a, b))
			checkSync(t, "appended", l, api.OK)
			d.Crash(nil)
			checkOpen(t, "opened again", d, a, b)
		}
	}
}

// P8.2: the records that are handed in, and those that were told, are not changed by later calls.
func TestStringsStay(t *testing.T) {
	d := disk.New(20)
	l := checkOpen(t, "new", d)
	var records, kept []string
	for i := range 10 {
		r := string([]byte(counted(i, 10+i*7)))
		records = append(records, r)
		kept = append(kept, strings.Clone(r))
		appendAll(t, l, r)
	}
	again, told := checkOpened(t, d)
	appendAll(t, again, "more", counted(1, 200))
	checkSync(t, "more", again, api.OK)
	d.Crash(nil)
	_, toldAgain := checkOpened(t, d)
	clear(toldAgain)
	checkRecords(t, "handed in", records, kept)
	checkRecords(t, "told", told, kept)
	checkOpen(t, "on the disk", d, append(kept, "more", counted(1, 200))...)
}

// P8.2: two logs on two disks beside one another have each their own records.
func TestTwoLogs(t *testing.T) {
	d, c := disk.New(9), disk.New(9)
	l, k := checkOpen(t, "one", d), checkOpen(t, "another one", c)
	var ours, theirs []string
	for i := range 6 {
		ours = append(ours, counted(i, 20+i))
		theirs = append(theirs, counted(50+i, 40+i))
		appendAll(t, l, ours[i])
		appendAll(t, k, theirs[i])
		checkLog(t, "one", l, len(written(ours...)), false)
		checkLog(t, "another one", k, len(written(theirs...)), false)
	}
	checkDisk(t, "one", d, written(ours...))
	checkDisk(t, "another one", c, written(theirs...))
	checkSync(t, "one", l, api.OK)
	checkWaits(t, "another one", c, 6+4)
	d.Fuse(0)
	checkAppend(t, "one without power", l, "x", api.ErrLost)
	checkLog(t, "one without power", l, len(written(ours...)), true)
	appendAll(t, k, "y")
	checkSync(t, "another one", k, api.OK)
	d.Crash(nil)
	c.Crash(nil)
	checkOpen(t, "one", d, ours...)
	checkOpen(t, "another one", c, append(theirs, "y")...)
}
