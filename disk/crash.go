package disk

import "isogloss/api"

// What a fate means that isn't how much of a write was made.
const (
	never = 0
	made  = 255
)

// Fuse takes the power away behind n more writes; below 0 it takes the fuse away.
func (d *Disk) Fuse(n int) {
	if d.lost() {
		return
	}
	d.fused = n >= 0
	d.left = max(n, 0)
}

// lost tells whether the power is gone.
func (d *Disk) lost() bool {
	return d.fused && d.left == 0
}

// Crash lets each write that waits meet its fate; the power is there again, and no fuse.
func (d *Disk) Crash(fates []uint8) {
	for i, w := range d.waiting {
		s := &d.sectors[w.sector]
		s.sure = torn(s.sure, w.bytes, fateOf(fates, i))
		s.now = s.sure
	}
	d.waiting = nil
	d.fused = false
	d.left = 0
}

// fateOf is what the i-th write meets.
func fateOf(fates []uint8, i int) uint8 {
	if i >= len(fates) {
		return never
	}
	return fates[i]
}

// torn is what a sector has that had old, behind a write of b that met this fate.
func torn(old, b string, fate uint8) string {
	switch fate {
	case never:
		return old
	case made:
		return b
	}
	n := int(fate) % api.Sector
	return b[:n] + old[n:]
}
