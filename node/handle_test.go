package node_test

import (
	"testing"

	"isogloss/api"
	"isogloss/msg"
)

// ofEachKind are messages to the node 1 of three, one of each kind and more, that do something at the stages of at, or where one is prepared.
func ofEachKind(one api.Txn) []msg.Msg {
	l := append(heard(one), keyAsked(0, 1, one, 9, "\x60k"), voteAsked(0, 1, txn(0, 1, 1), 5, put("\x60z", "")), endTold(2, 1, preparedTxn, 9), endTold(2, 1, preparedTxn, 0), doneTold(0, 1, one), endAsked(0, 1, one), endAsked(2, 1, txn(1, 9, 9)))
	for _, m := range []msg.Msg{timeAsked(0, one, 1), timeAsked(0, one, 2)} {
		m.To = 1
		l = append(l, m)
	}
	return l
}

// P15.2: kinds that are none do nothing.
func TestOtherKinds(t *testing.T) {
	for stage := 1; stage <= 6; stage++ {
		b, one := at(t, stage)
		for _, kind := range []int{0, 10, 11, 12, 100, 255, 256, 257, 1 << 32, 1<<32 + 1, -1, -5, leastInt, mostInt} {
			for _, m := range ofEachKind(one) {
				m.Kind = kind
				b.fast.Handle(m)
			}
		}
		b.sent().check()
	}
}

// P15.2: messages to another node do nothing.
func TestToAnother(t *testing.T) {
	for stage := 1; stage <= 6; stage++ {
		b, one := at(t, stage)
		b.handle(voteAsked(2, 1, preparedTxn, 5, preparedWrites...)).sent(voteTold(1, 2, preparedTxn, 1))
		for _, to := range []int{0, 2, 3, 4, 5, -1, 1<<32 + 1, leastInt, mostInt} {
			for _, m := range ofEachKind(one) {
				m.To = to
				b.fast.Handle(m)
			}
		}
		b.sent().check().tick().sentAsSlow()
	}
	b := fresh(t, 0, 3)
	m := timeAsked(1, txn(1, 1, 1), 1)
	m.To = 1
	b.nothing(m)
}

// P15.2: where the log is over no message does anything, also when the power is there again; what else is asked is answered as it was.
func TestHandleOver(t *testing.T) {
	for _, back := range []bool{false, true} {
		for stage := 1; stage <= 6; stage++ {
			b, one := at(t, stage)
			b.handle(voteAsked(2, 1, preparedTxn, 5, preparedWrites...)).sent(voteTold(1, 2, preparedTxn, 1))
			b.fuse(0).handle(voteAsked(2, 1, txn(2, 4, 2), 5, put("\x60y", ""))).sent(voteTold(1, 2, txn(2, 4, 2), 0))
			if back {
				b.disk.Crash(nil)
				b.slow.fuse = -1
			}
			for _, m := range ofEachKind(one) {
				b.nothing(m)
			}
			b.check().tick().sentAsSlow()
		}
	}
	b := fresh(t, 0, 1).fuse(0)
	b.nothing(timeAsked(0, txn(0, 1, 1), 1))
	b.disk.Crash(nil)
	b.nothing(timeAsked(0, txn(0, 1, 1), 1))
}

// P15.2: what comes with a message besides does nothing more: a note, a hint, what a kind has no use for.
func TestHandleRich(t *testing.T) {
	rich := func(m msg.Msg) msg.Msg {
		m.Note, m.Hint, m.Must = "note", 7, 8
		return m
	}
	b, one := at(t, 4)
	b.handle(rich(timeTold(1, one, 2, 60))).sentAsSlow().check()
	b.handle(rich(keyAsked(0, 1, one, 9, "\x60k"))).sent(keyNone(1, 0, one, 9, "\x60k"))
	b.handle(rich(voteAsked(2, 1, preparedTxn, 5, preparedWrites...))).sent(voteTold(1, 2, preparedTxn, 1))
	if l := b.slow.records; !same(l[len(l)-1], partPrepared(preparedTxn, 5, preparedWrites...)) {
		t.Errorf("records: %s", briefs(l))
	}
	end := rich(endTold(2, 1, preparedTxn, 9))
	end.A, end.Key, end.Found, end.Writes = 3, "k", true, puts("\x60q")
	b.handle(end).sent(doneTold(1, 2, preparedTxn)).check()
	b.handle(rich(endAsked(0, 1, one))).sent(endTold(1, 0, one, 60)).check()
}
