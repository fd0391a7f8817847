package node_test

import (
	"maps"
	"slices"
	"testing"

	"isogloss/api"
	"isogloss/coord"
	"isogloss/crc"
	"isogloss/disk"
	"isogloss/msg"
	"isogloss/node"
)

// sectors are how many a disk has, where no more are said.
const sectors = 100

// both is a node and a slow one, of which the same is asked.
type both struct {
	t    *testing.T
	disk *disk.Disk
	fast *node.Node
	slow *slow
}

// opened are a node on a disk, and a slow one that has what stands there and one life more.
func opened(t *testing.T, d *disk.Disk, id, nodes int) *both {
	t.Helper()
	s := &slow{id: id, nodes: nodes, version: 1 + id%3, room: d.Sectors() * 64, fuse: -1}
	for _, b := range stands(t, d) {
		m, _, e := msg.Decode(3, b)
		if e != api.OK {
			t.Fatalf("%q is no message: error %d", short(b), e)
		}
		s.records = append(s.records, m)
	}
	if !s.sure(lifeBegan(s.life() + 1)) {
		t.Fatal("the slow one has no room for a life")
	}
	n, e := node.Open(crc.Make(), d, id, nodes, s.version)
	if e != api.OK || n == nil {
		t.Fatalf("Open: error %d", e)
	}
	b := &both{t, d, n, s}
	b.sent()
	b.check()
	return b
}

// fresh are new ones on a disk that has these records.
func fresh(t *testing.T, id, nodes int, records ...msg.Msg) *both {
	t.Helper()
	return opened(t, recorded(t, sectors, records...), id, nodes)
}

// again are both opened again, behind a crash with these fates.
func (b *both) again(fates ...uint8) *both {
	b.t.Helper()
	b.disk.Crash(fates)
	return opened(b.t, b.disk, b.slow.id, b.slow.nodes)
}

// fuse lays a fuse to the disk of both.
func (b *both) fuse(n int) *both {
	b.disk.Fuse(n)
	b.slow.fuse = n
	return b
}

// sent holds that just these are sent, once, and all that is told.
func (b *both) sent(want ...msg.Msg) *both {
	b.t.Helper()
	if l := b.slow.out; !slices.EqualFunc(l, want, same) {
		b.t.Fatalf("the slow one sends %s, not %s", briefs(l), briefs(want))
	}
	return b.sentAsSlow()
}

// sentAsSlow holds that what the slow one sends is sent, once, and all that is told.
func (b *both) sentAsSlow() *both {
	b.t.Helper()
	if l := b.fast.Send(); !slices.EqualFunc(l, b.slow.out, same) {
		b.t.Errorf("Send: %s, not %s", briefs(l), briefs(b.slow.out))
	}
	b.slow.out = nil
	if l := b.fast.Send(); len(l) > 0 {
		b.t.Errorf("Send once more: %s", briefs(l))
	}
	b.checkNumbers()
	return b
}

// begin begins a program with both, which may be begun.
func (b *both) begin(p coord.Prog) api.Txn {
	b.t.Helper()
	want := b.slow.begin(p)
	if one, e := b.fast.Begin(p); one != want || e != api.OK {
		b.t.Fatalf("Begin: %v, error %d, not %v", one, e, want)
	}
	return want
}

// refuse holds that a program isn't begun, and that nothing is changed.
func (b *both) refuse(p coord.Prog, want api.Errno) {
	b.t.Helper()
	if one, e := b.fast.Begin(p); one != (api.Txn{}) || e != want {
		b.t.Errorf("Begin: %v, error %d, not %d", one, e, want)
	}
	b.sentAsSlow()
	b.check()
}

// handle hands a message to both.
func (b *both) handle(m msg.Msg) *both {
	b.fast.Handle(m)
	b.slow.handle(m)
	return b
}

// nothing holds that a message does nothing.
func (b *both) nothing(m msg.Msg) *both {
	b.t.Helper()
	records := len(b.slow.records)
	b.handle(m).sent()
	if len(b.slow.records) != records {
		b.t.Errorf("%s made a record", brief(m))
	}
	return b.check()
}

// tick ticks both.
func (b *both) tick() *both {
	b.fast.Tick()
	b.slow.tick()
	return b
}

// checkNumbers holds all that is told but for the store, the outcomes and the records.
func (b *both) checkNumbers() {
	b.t.Helper()
	works, _ := b.slow.works()
	if got, want := b.fast.Running(), b.slow.running(); got != want {
		b.t.Errorf("Running: %d, not %d", got, want)
	}
	if got, want := b.fast.Locked(), len(works); got != want {
		b.t.Errorf("Locked: %d, not %d", got, want)
	}
	if got, want := b.fast.Over(), b.slow.over; got != want {
		b.t.Errorf("Over: %t, not %t", got, want)
	}
	if got, want := b.fast.Life(), b.slow.life(); got != want {
		b.t.Errorf("Life: %d, not %d", got, want)
	}
	if got, want := b.fast.Version(), b.slow.version; got != want {
		b.t.Errorf("Version: %d, not %d", got, want)
	}
}

// check holds all that is told.
func (b *both) check() *both {
	b.t.Helper()
	b.checkNumbers()
	b.checkOutcomes()
	b.checkStore()
	b.checkRecords()
	return b
}

// checkOutcomes holds Outcome, of each run, and of others.
func (b *both) checkOutcomes() {
	b.t.Helper()
	l := []api.Txn{{}, txn(b.slow.id, b.slow.life(), 0), txn(b.slow.id, b.slow.life(), -1), txn(b.slow.id, b.slow.life(), mostInt)}
	for _, r := range b.slow.runs {
		l = append(l, r.txn, txn(r.txn.Node+1, r.txn.Life, r.txn.Seq), txn(r.txn.Node, r.txn.Life-1, r.txn.Seq), txn(r.txn.Node, r.txn.Life+1, r.txn.Seq), txn(r.txn.Node, r.txn.Life, r.txn.Seq+1))
	}
	for _, one := range l {
		want, wantOK := b.slow.outcome(one)
		if got, ok := b.fast.Outcome(one); !sameOutcome(got, want) || ok != wantOK {
			b.t.Errorf("Outcome(%v): %v, %t, not %v, %t", one, got, ok, want, wantOK)
		}
	}
}

// checkStore holds what the store has of each key at each time.
func (b *both) checkStore() {
	b.t.Helper()
	_, chains := b.slow.works()
	s := b.fast.Store()
	if got, want := s.Keys(), slices.Sorted(maps.Keys(chains)); !slices.Equal(got, want) {
		b.t.Errorf("the store's keys: %q, not %q", got, want)
	}
	for key, l := range chains {
		for i, v := range l {
			if got, ok := s.At(key, v.Time); got != v || !ok {
				b.t.Errorf("the store's %q at %d: %v, not %v", short(key), v.Time, got, v)
			}
			var ahead api.Version
			if i > 0 {
				ahead = l[i-1]
			}
			if got, ok := s.At(key, v.Time-1); got != ahead || ok != (i > 0) {
				b.t.Errorf("the store's %q at %d: %v, not %v", short(key), v.Time-1, got, ahead)
			}
		}
		if got := s.Last(key); got != l[len(l)-1].Time {
			b.t.Errorf("the store's last %q: %d", short(key), got)
		}
	}
}

// checkRecords holds what stands on the disk, and that none of its writes waits; where the power is gone it can't be asked.
func (b *both) checkRecords() {
	b.t.Helper()
	if b.slow.fuse == 0 {
		return
	}
	l := stands(b.t, b.disk)
	var want []string
	for _, m := range b.slow.records {
		want = append(want, bytesOf(b.t, m))
	}
	if !slices.Equal(l, want) {
		b.t.Errorf("records: %q, not %q", l, want)
	}
	if n := b.disk.Waits(); n > 0 {
		b.t.Errorf("%d writes wait", n)
	}
}

// The run that at brings to a stage is the node 1's, of three, which began at 50; it reads at 2 and 0, and writes at all of them.
var (
	atReads  = []string{"\xffread", "\x00read"}
	atWrites = []api.Write{put("\xffw", "two"), put("\x60w", "one"), drop("\x00w"), put("\x80w", "one, too")}
)

// at are both with a run that is at this stage, which was aborted by the node 2, if that is 6; what was sent is taken.
func at(t *testing.T, stage int) (*both, api.Txn) {
	t.Helper()
	b := fresh(t, 1, 3)
	one := b.begin(program(atReads, atWrites...))
	l := []msg.Msg{
		timeTold(1, one, 1, 50),
		keyTold(2, 1, one, 50, atReads[0], 7, "seven"), keyNone(0, 1, one, 50, atReads[1]),
		voteTold(0, 1, one, 1), voteTold(1, 1, one, 1), voteTold(2, 1, one, 1),
		timeTold(1, one, 2, 60),
	}
	if stage == 6 {
		l[5].B = 0
	}
	for _, m := range l[:[]int{0, 0, 1, 3, 6, 7, 6}[stage]] {
		b.handle(m)
	}
	b.sentAsSlow()
	if o, _ := b.fast.Outcome(one); o.Stage != stage {
		t.Fatalf("the stage is %d, not %d", o.Stage, stage)
	}
	return b.check(), one
}

// heard are messages to the run of at, one of each kind that is for a run.
func heard(one api.Txn) []msg.Msg {
	return []msg.Msg{
		timeTold(1, one, 1, 50), timeTold(1, one, 2, 60),
		keyTold(2, 1, one, 50, atReads[0], 7, "seven"), keyNone(0, 1, one, 50, atReads[1]), keyBusy(2, 1, one, 50, atReads[0]),
		voteTold(0, 1, one, 1), voteTold(1, 1, one, 1), voteTold(2, 1, one, 1), voteTold(0, 1, one, 0), voteTold(1, 1, one, 0), voteTold(2, 1, one, 0),
	}
}
