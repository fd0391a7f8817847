package log_test

import (
	"math/rand/v2"
	"testing"

	"isogloss/api"
	"isogloss/crc"
	"isogloss/disk"
	"isogloss/log"
)

// pair is a log and a slow one, each on a disk of its own, on which the same is done.
type pair struct {
	d, slowD *disk.Disk
	l        *log.Log
	slow     *slowLog
}

// both does the same at both disks.
func (p *pair) both(do func(d *disk.Disk)) {
	do(p.d)
	do(p.slowD)
}

// open opens both logs, till the power is there, and holds what they tell.
func (p *pair) open(t *testing.T, r *rand.Rand) {
	t.Helper()
	for {
		l, got, e := log.Open(crc.Make(), p.d)
		slow, want, wantE := openSlow(p.slowD)
		checkRecords(t, "opened", got, want)
		if e != wantE || (l == nil) != (slow == nil) {
			t.Fatalf("Open: log %v, error %d, not error %d", l, e, wantE)
		}
		if e == api.OK {
			p.l, p.slow = l, slow
			return
		}
		p.crash(t, r)
	}
}

// crash lets what waits meet its fates.
func (p *pair) crash(t *testing.T, r *rand.Rand) {
	t.Helper()
	checkWaits(t, "ahead of a crash", p.d, p.slowD.Waits())
	fates := randomFates(r, p.slowD.Waits())
	p.both(func(d *disk.Disk) { d.Crash(fates) })
}

// check holds both logs, and both disks, against one another.
func (p *pair) check(t *testing.T) {
	t.Helper()
	checkLog(t, "at random", p.l, p.slow.end, p.slow.over)
	checkWaits(t, "at random", p.d, p.slowD.Waits())
	for i := range p.slowD.Sectors() {
		got, e := p.d.Read(i)
		want, wantE := p.slowD.Read(i)
		if got != want || e != wantE {
			t.Errorf("sector %d: %x, error %d, not %x, error %d", i, got, e, want, wantE)
		}
	}
}

// step makes one call at random at both.
func (p *pair) step(t *testing.T, r *rand.Rand) {
	t.Helper()
	switch r.IntN(16) {
	case 0, 1, 2:
		checkSync(t, "at random", p.l, p.slow.sync())
	case 3:
		n := r.IntN(12) - 2
		p.both(func(d *disk.Disk) { d.Fuse(n) })
	case 4:
		p.crash(t, r)
		p.open(t, r)
	case 5:
		p.open(t, r)
	case 6:
		p.crash(t, r)
		at, b := r.IntN(p.d.Sectors()), randomBytes(r, sector)
		p.both(func(d *disk.Disk) { d.Write(at, b) })
		p.open(t, r)
	default:
		record := randomRecord(r)
		checkAppend(t, "at random", p.l, record, p.slow.append(record))
	}
}

// randomRecord is a record at random, a wrong one now and then.
func randomRecord(r *rand.Rand) string {
	switch r.IntN(20) {
	case 0:
		return ""
	case 1:
		return randomBytes(r, longest-1+r.IntN(4))
	case 2:
		return noughts(1 + r.IntN(200))
	case 3:
		return written(randomBytes(r, 1+r.IntN(80)))
	case 4:
		return randomBytes(r, 55+r.IntN(6))
	}
	return randomBytes(r, 1+r.IntN(100))
}

// P8.1, P8.2, P8.3: many calls at random, held against the slow log behind each one.
func TestAtRandom(t *testing.T) {
	r := rand.New(rand.NewPCG(8, 2))
	for range 300 {
		n := 1 + r.IntN(20)
		p := &pair{d: disk.New(n), slowD: disk.New(n)}
		p.open(t, r)
		for range 120 {
			p.step(t, r)
			p.check(t)
		}
	}
}

// P8.1, P8.2: so on disks with room for the longest records.
func TestAtRandomWithRoom(t *testing.T) {
	r := rand.New(rand.NewPCG(8, 4))
	for range 6 {
		p := &pair{d: disk.New(400), slowD: disk.New(400)}
		p.open(t, r)
		for range 150 {
			p.step(t, r)
		}
		p.check(t)
	}
}
