package node_test

import (
	"slices"
	"strings"
	"testing"

	"isogloss/api"
	"isogloss/msg"
)

// The transaction that prepared has is the node 2's; it began at 5.
var (
	preparedTxn    = txn(2, 4, 1)
	preparedWrites = []api.Write{put("\x60k", "v"), drop("\x61m")}
)

// prepared is the node 1 of three, where one is prepared.
func prepared(t *testing.T) *both {
	t.Helper()
	b := fresh(t, 1, 3)
	return b.handle(voteAsked(2, 1, preparedTxn, 5, preparedWrites...)).sent(voteTold(1, 2, preparedTxn, 1))
}

// P15.2: it has committed above its start: behind a record its writes are in the store at that time, it isn't prepared any more, and 8 is answered; once more, 8 alone.
func TestEndCommitted(t *testing.T) {
	for _, time := range []uint64{6, 7, 1 << 40, greatest} {
		for from := range 3 {
			b := prepared(t)
			b.handle(endTold(from, 1, preparedTxn, time)).sent(doneTold(1, from, preparedTxn)).check()
			if l := b.slow.records; len(l) != 3 || !same(l[2], partEnded(preparedTxn, time)) || b.fast.Locked() != 0 {
				t.Errorf("records: %s", briefs(l))
			}
			s := b.fast.Store()
			if v, ok := s.At("\x60k", time); !ok || v != (api.Version{Time: time, Value: "v"}) {
				t.Errorf("%v", v)
			}
			if v, ok := s.At("\x61m", time); !ok || v != (api.Version{Time: time, Gone: true}) {
				t.Errorf("%v", v)
			}
			for _, again := range []uint64{time, 0, 5, 1, greatest} {
				b.handle(endTold(0, 1, preparedTxn, again)).sent(doneTold(1, 0, preparedTxn)).check()
			}
			if len(b.slow.records) != 3 {
				t.Errorf("records: %s", briefs(b.slow.records))
			}
			b.again()
		}
	}
}

// P15.2: at its start, or below it, nothing can have committed: nothing is done, and nothing answered.
func TestEndTooEarly(t *testing.T) {
	b := prepared(t)
	for range 2 {
		for _, time := range []uint64{1, 4, 5} {
			b.nothing(endTold(2, 1, preparedTxn, time))
		}
		b = b.again()
	}
	b.handle(endTold(2, 1, preparedTxn, 6)).sent(doneTold(1, 2, preparedTxn)).check()
}

// P15.2: it was aborted: behind a record nothing is in the store, nothing is locked, and 8 is answered.
func TestEndAborted(t *testing.T) {
	b := prepared(t)
	b.handle(endTold(2, 1, preparedTxn, 0)).sent(doneTold(1, 2, preparedTxn)).check()
	if l := b.slow.records; len(l) != 3 || !same(l[2], partEnded(preparedTxn, 0)) || b.fast.Locked() != 0 || len(b.fast.Store().Keys()) > 0 {
		t.Errorf("records: %s", briefs(l))
	}
	for _, again := range []uint64{0, 6, greatest} {
		b.handle(endTold(2, 1, preparedTxn, again)).sent(doneTold(1, 2, preparedTxn)).check()
	}
	b.again().handle(voteAsked(0, 1, txn(0, 1, 1), 3, preparedWrites...)).sent(voteTold(1, 0, txn(0, 1, 1), 1)).check()
}

// P15.2: of what isn't prepared 8 is answered, and no record made, whatever it is.
func TestEndOfNothing(t *testing.T) {
	b := prepared(t)
	records := len(b.slow.records)
	for _, one := range append(strangers(preparedTxn), txn(1, 1, 1), txn(0, 4, 1)) {
		for _, time := range []uint64{0, 1, 6, greatest} {
			b.handle(endTold(0, 1, one, time)).sent(doneTold(1, 0, one))
		}
	}
	if b.check(); len(b.slow.records) != records {
		t.Errorf("records: %s", briefs(b.slow.records))
	}
}

// P15.2: where the record can't be, as the disk is full, or its power is gone, nothing is answered, and it stays prepared.
func TestEndWithoutRecord(t *testing.T) {
	for _, time := range []uint64{0, 6} {
		for fuse := range 2 {
			b := prepared(t).fuse(fuse)
			b.nothing(endTold(2, 1, preparedTxn, time))
			if !b.fast.Over() || b.fast.Locked() != 1 {
				t.Errorf("%d are prepared", b.fast.Locked())
			}
			b = b.again()
			b.handle(endTold(2, 1, preparedTxn, time)).sent(doneTold(1, 2, preparedTxn)).check()
		}
		p := partPrepared(preparedTxn, 5, put("\x60k", ""))
		p.Writes[0].Value = strings.Repeat("v", 8*64-6-len(bytesOf(t, p))-2-20) // both lengths have two bytes
		b := opened(t, recorded(t, 8, p), 1, 3)
		b.nothing(endTold(2, 1, preparedTxn, time))
		if b.fast.Over() || b.fast.Locked() != 1 {
			t.Errorf("%d are prepared", b.fast.Locked())
		}
		b.tick().sent(endAsked(1, 2, preparedTxn))
		b.handle(endTold(2, 1, txn(2, 4, 2), time)).sent(doneTold(1, 2, txn(2, 4, 2)))
	}
}

// P15.2: of some that are prepared just the one that is named ends.
func TestEndOfOne(t *testing.T) {
	var l []api.Txn
	b := fresh(t, 1, 3)
	for i, key := range []string{"\x60a", "\x60b", "\x60c", "\x60d", "\x60e"} {
		l = append(l, txn([]int{2, 0, 2, 1, 2}[i], []int{4, 4, 3, 4, 4}[i], []int{1, 1, 1, 1, 2}[i]))
		b.handle(voteAsked(2, 1, l[i], uint64(5+i), put(key, "v"))).sent(voteTold(1, 2, l[i], 1))
	}
	for _, i := range []int{2, 0, 4, 1, 3} {
		b.nothing(endTold(2, 1, l[i], uint64(5+i)))
		b.handle(endTold(2, 1, l[i], uint64(i%2)*50)).sent(doneTold(1, 2, l[i])).check()
	}
	if got := b.fast.Store().Keys(); !slices.Equal(got, []string{"\x60b", "\x60d"}) {
		t.Errorf("%q", got)
	}
}

// P15.2: done: Tick tells that node no more of it; the others till they have said so, and all of them once more in the next life.
func TestDone(t *testing.T) {
	b, one := at(t, 5)
	b.tick().sent(endTold(1, 0, one, 60), endTold(1, 1, one, 60), endTold(1, 2, one, 60))
	b.nothing(doneTold(1, 1, one)).tick().sent(endTold(1, 0, one, 60), endTold(1, 2, one, 60))
	b.nothing(doneTold(1, 1, one)).tick().sent(endTold(1, 0, one, 60), endTold(1, 2, one, 60))
	b.nothing(doneTold(2, 1, one)).tick().sent(endTold(1, 0, one, 60))
	b.nothing(doneTold(0, 1, one)).tick().sent()
	b = b.again()
	b.tick().sent(endTold(1, 0, one, 60), endTold(1, 1, one, 60), endTold(1, 2, one, 60))
	b.nothing(doneTold(0, 1, one)).tick().sent(endTold(1, 1, one, 60), endTold(1, 2, one, 60))
	b = b.again()
	b.tick().sent(endTold(1, 0, one, 60), endTold(1, 1, one, 60), endTold(1, 2, one, 60))
}

// P15.2: done, of a node that has no part, of another transaction, or at another stage, changes nothing that is told.
func TestDoneOfOthers(t *testing.T) {
	b, one := at(t, 5)
	for _, from := range []int{-1, 3, 4, leastInt, mostInt} {
		b.nothing(doneTold(from, 1, one))
	}
	for _, other := range strangers(one) {
		for from := range 3 {
			b.nothing(doneTold(from, 1, other))
		}
	}
	b.tick().sent(endTold(1, 0, one, 60), endTold(1, 1, one, 60), endTold(1, 2, one, 60))
	for stage := 1; stage <= 6; stage++ {
		b, one := at(t, stage)
		b.nothing(doneTold(3, 1, one)).tick().sentAsSlow()
	}
}

// P15.2: who has said in this life that it is done is told no more of it, also where it said so ahead of the end.
func TestDoneEarly(t *testing.T) {
	for stage := 1; stage <= 4; stage++ {
		b, one := at(t, stage)
		b.nothing(doneTold(1, 1, one)).tick().sentAsSlow()
		for _, m := range heard(one)[:4] {
			b.handle(m)
		}
		for from := range 3 {
			b.handle(voteTold(from, 1, one, 1))
		}
		b.handle(timeTold(1, one, 2, 60)).sentAsSlow().tick().sent(endTold(1, 0, one, 60), endTold(1, 2, one, 60))
		b.again().tick().sent(endTold(1, 0, one, 60), endTold(1, 1, one, 60), endTold(1, 2, one, 60))
	}
}

// P15.2: what became of it: of one that has committed its time, in this life and in later ones; of one that was aborted 0; nothing while it runs.
func TestAsked(t *testing.T) {
	for stage := 1; stage <= 6; stage++ {
		b, one := at(t, stage)
		for from := range 3 {
			b.handle(endAsked(from, 1, one))
			switch stage {
			case 5:
				b.sent(endTold(1, from, one, 60))
			case 6:
				b.sent(endTold(1, from, one, 0))
			default:
				b.sent()
			}
		}
		for range 2 {
			b = b.check().again()
			want := uint64(0)
			if stage == 5 {
				want = 60
			}
			b.handle(endAsked(2, 1, one)).sent(endTold(1, 2, one, want))
		}
	}
}

// P15.2: of a transaction of this node that never was 0; of another node's nothing, whatever is known of it here.
func TestAskedOfOthers(t *testing.T) {
	b, one := at(t, 5)
	b.handle(voteAsked(2, 1, preparedTxn, 5, preparedWrites...)).sent(voteTold(1, 2, preparedTxn, 1))
	for _, other := range append(strangers(one), preparedTxn) {
		b.handle(endAsked(2, 1, other))
		if other.Node == 1 {
			b.sent(endTold(1, 2, other, 0))
		} else {
			b.sent()
		}
	}
	b.check()
}

// P15.2: of some that have committed, each has its own time.
func TestAskedOfMany(t *testing.T) {
	var records []msg.Msg
	for i := range 6 {
		records = append(records, runCommitted(txn(1, 1+i/3, 1+i%3), uint64(10+i), put("\x00k", "")))
	}
	b := fresh(t, 1, 3, records...)
	for i := range 6 {
		b.handle(endAsked(0, 1, txn(1, 1+i/3, 1+i%3))).sent(endTold(1, 0, txn(1, 1+i/3, 1+i%3), uint64(10+i)))
	}
	b.handle(endAsked(0, 1, txn(1, 1, 4))).sent(endTold(1, 0, txn(1, 1, 4), 0)).check()
}
