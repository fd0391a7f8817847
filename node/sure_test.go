package node_test

import (
	"math/rand/v2"
	"slices"
	"testing"

	"isogloss/api"
	"isogloss/coord"
	"isogloss/crc"
	"isogloss/disk"
	"isogloss/msg"
	"isogloss/node"
)

// told is what a node has told others, or its client, that must stay.
type told struct {
	life    int
	yes     []msg.Msg // votes
	done    []msg.Msg
	commits []msg.Msg // of its own runs
	times   []uint64
}

// hears keeps of what is sent what must stay.
func (o *told) hears(l []msg.Msg) {
	for _, m := range l {
		switch {
		case m.Kind == 2:
			o.times = append(o.times, m.B)
		case m.Kind == 6 && m.B == 1:
			o.yes = append(o.yes, m)
		case m.Kind == 7 && m.B > 0:
			o.commits = append(o.commits, m)
		case m.Kind == 8:
			o.done = append(o.done, m)
		}
	}
}

// guest are writes of a transaction of the node 1, which the node 0 of two prepares beside its own.
func guest(seq int) msg.Msg {
	return voteAsked(1, 0, txn(1, 1, seq), 5, put("\x01guest"+string(rune('a'+seq)), "v"))
}

// busyLife is a life of the node 0 of two on a disk with a fuse: it runs programs, and takes part in those of the node 1; what it has told.
func busyLife(n *node.Node) *told {
	o := &told{life: n.Life()}
	programs := []coord.Prog{program([]string{"\x00a"}, put("\x00a", "v"), put("\xffb", "w")), program(nil, put("\x00c", "longer than one sector is, by some bytes, so that two writes are made")), program(nil, put("\xffd", ""))}
	for i, p := range programs {
		n.Begin(p)
		n.Handle(guest(2 * i))
		n.Handle(guest(2*i + 1))
		for range 12 {
			l := n.Send()
			o.hears(l)
			for _, m := range l {
				if m.Kind == 5 && m.To == 1 {
					m = voteTold(1, 0, m.Txn, 1)
				}
				n.Handle(m)
			}
		}
		n.Handle(endTold(1, 0, guest(2*i).Txn, uint64(900+i)))
		n.Handle(endTold(1, 0, guest(2*i+1).Txn, 0))
	}
	n.Tick()
	o.hears(n.Send())
	return o
}

// checkStays holds that a node that was opened again behind o's life has all that was told.
func checkStays(t *testing.T, n *node.Node, o *told) {
	t.Helper()
	if n.Life() <= o.life {
		t.Errorf("the life %d is behind %d", n.Life(), o.life)
	}
	for _, m := range o.commits {
		n.Handle(endAsked(m.To, 0, m.Txn))
		if l := n.Send(); len(l) != 1 || !same(l[0], m) {
			t.Errorf("asked what became of %s: %s", brief(m), briefs(l))
		}
	}
	n.Tick()
	asked := n.Send()
	for _, m := range o.yes {
		ended := slices.ContainsFunc(o.done, func(d msg.Msg) bool { return d.Txn == m.Txn })
		prepared := slices.ContainsFunc(asked, func(a msg.Msg) bool { return a.Kind == 9 && a.Txn == m.Txn })
		if prepared && ended {
			t.Errorf("%s is prepared, and has ended", brief(m))
		}
		if !prepared && !ended && !endedOnDisk(n, m.Txn) {
			t.Errorf("%s isn't prepared any more", brief(m))
		}
	}
	for i := range 3 {
		seq := 2 * i
		if slices.ContainsFunc(o.done, func(d msg.Msg) bool { return d.Txn == txn(1, 1, seq) }) {
			if v, ok := n.Store().At(guest(seq).Writes[0].Key, greatest); !ok || v != (api.Version{Time: uint64(900 + i), Value: "v"}) {
				t.Errorf("of the guest %d: %v", seq, v)
			}
		}
	}
	n.Handle(timeAsked(0, txn(0, n.Life(), 1), 1))
	if l := n.Send(); len(l) != 1 || slices.ContainsFunc(o.times, func(time uint64) bool { return time >= l[0].B }) {
		t.Errorf("a time comes twice: %s", briefs(l))
	}
}

// endedOnDisk tells whether a transaction whose end wasn't told has ended all the same: its record was on its way when the power went.
func endedOnDisk(n *node.Node, one api.Txn) bool {
	n.Handle(endTold(one.Node, 0, one, 1))
	l := n.Send()
	return len(l) == 1 && l[0].Kind == 8
}

// P15.4: wherever the power goes, and whatever fates writes meet: opened again a node has each life, each yes, each commit, each end and each time's limit that was told.
func TestSure(t *testing.T) {
	fates := [][]uint8{nil, {255}, {255, 255}, {255, 255, 255}, {0, 255}, {0, 0, 255}, {255, 0, 255}, {63}, {1, 255}, {20, 20, 20}, {255, 40}, {255, 255, 7}}
	ended := 0
	for fuse := range 45 {
		for _, l := range fates {
			d := disk.New(sectors)
			d.Fuse(fuse)
			o := &told{}
			n, e := node.Open(crc.Make(), d, 0, 2, 1)
			if e == api.OK {
				o = busyLife(n)
				if !n.Over() {
					ended++
				}
			}
			d.Crash(l)
			n, e = node.Open(crc.Make(), d, 0, 2, 1)
			if e != api.OK {
				t.Fatalf("a fuse of %d: error %d", fuse, e)
			}
			checkStays(t, n, o)
		}
	}
	if ended == 0 || ended > 20*len(fates) {
		t.Errorf("%d lives had power enough", ended)
	}
}

// P15.4: so of many fuses and fates at random, over some lives of one disk.
func TestSureAtRandom(t *testing.T) {
	r := rand.New(rand.NewPCG(15, 4))
	for range 400 {
		d := disk.New(sectors)
		last := 0
		var commits []msg.Msg
		for range 4 {
			d.Fuse(r.IntN(50))
			n, e := node.Open(crc.Make(), d, 0, 2, 1)
			if e == api.OK {
				if n.Life() <= last {
					t.Errorf("the life %d is behind %d", n.Life(), last)
				}
				last = n.Life()
				commits = append(commits, busyLife(n).commits...)
			}
			var fates []uint8
			for range 4 {
				fates = append(fates, []uint8{0, 255, uint8(r.UintN(256))}[r.IntN(3)])
			}
			d.Crash(fates)
		}
		for _, m := range commits {
			checkCommitted(t, d, m)
		}
	}
}

// checkCommitted holds that on a disk what was told as committed is so.
func checkCommitted(t *testing.T, d *disk.Disk, want msg.Msg) {
	t.Helper()
	for _, b := range stands(t, d) {
		if m, _, _ := msg.Decode(3, b); m.Kind == 6 && m.Txn == want.Txn && m.B == want.B {
			return
		}
	}
	t.Errorf("%s doesn't stand", brief(want))
}

// P15.4: a yes, a commit and an end are told by the very call that makes the record, and not ahead of it: with a fuse that is one write too short nothing of them is told.
func TestToldBehindRecord(t *testing.T) {
	for fuse := range 4 {
		b, one := at(t, 4)
		b.fuse(fuse).handle(timeTold(1, one, 2, 60))
		for _, m := range b.fast.Send() {
			if committed := len(b.slow.records) == 2; committed != (m.B == 60) || m.Kind != 7 {
				t.Errorf("a fuse of %d: %s", fuse, brief(m))
			}
		}
		c := fresh(t, 1, 3).fuse(fuse)
		c.handle(voteAsked(2, 1, preparedTxn, 5, preparedWrites...))
		if l := c.fast.Send(); len(l) != 1 || (l[0].B == 1) != (len(c.slow.records) == 2) {
			t.Errorf("a fuse of %d: %s", fuse, briefs(l))
		}
		p := prepared(t).fuse(fuse)
		p.handle(endTold(2, 1, preparedTxn, 9))
		if l := p.fast.Send(); len(l) != len(p.slow.records)-2 {
			t.Errorf("a fuse of %d: %s", fuse, briefs(l))
		}
	}
}
