package node_test

import (
	"slices"
	"testing"

	"isogloss/api"
	"isogloss/coord"
	"isogloss/msg"
)

// P15.2: the message 1 at the node 0: a limit is noted first, and then times rise, of whoever asks, for a start as for a commit.
func TestTime(t *testing.T) {
	for nodes := 1; nodes <= 5; nodes++ {
		b := fresh(t, 0, nodes)
		for i := range 250 {
			from, one := i%nodes, txn(i%nodes, 3, i)
			b.handle(timeAsked(from, one, uint64(1+i%2))).sent(timeTold(from, one, uint64(1+i%2), uint64(i+1)))
			if i == 0 || i == 99 || i == 100 || i == 199 || i == 200 {
				b.check()
			}
		}
		if l := b.slow.records; len(l) != 4 || !same(l[1], limitRose(100)) || !same(l[2], limitRose(200)) || !same(l[3], limitRose(300)) {
			t.Errorf("records: %s", briefs(l))
		}
		b = b.again()
		b.handle(timeAsked(0, txn(0, 4, 1), 1)).sent(timeTold(0, txn(0, 4, 1), 1, 301))
	}
}

// P15.2: no other node has times.
func TestTimeElsewhere(t *testing.T) {
	for nodes := 2; nodes <= 5; nodes++ {
		for id := 1; id < nodes; id++ {
			b := fresh(t, id, nodes, limitRose(100))
			for from := range nodes {
				m := timeAsked(from, txn(from, 1, 1), 1)
				b.nothing(m)
				m.To = id
				b.nothing(m)
				m.A = 2
				b.nothing(m)
			}
		}
	}
}

// P15.2: where the limit can't be noted, as the disk is full, or its power is gone, nothing is answered; behind the last time nothing either.
func TestTimeWithoutLimit(t *testing.T) {
	b := opened(t, tight(t, txn(0, 1, 1), 19), 0, 2)
	for range 3 {
		b.nothing(timeAsked(1, txn(1, 1, 1), 1))
		b.nothing(timeAsked(1, txn(1, 1, 1), 2))
	}
	for fuse := range 3 {
		b := fresh(t, 0, 2).fuse(fuse)
		one := txn(1, 1, 1)
		if fuse == 2 {
			b.handle(timeAsked(1, one, 1)).sent(timeTold(1, one, 1, 1))
			continue
		}
		b.nothing(timeAsked(1, one, 1)).nothing(timeAsked(1, one, 1))
	}
	b = fresh(t, 0, 2, limitRose(greatest-2))
	one := txn(1, 1, 1)
	b.handle(timeAsked(1, one, 1)).sent(timeTold(1, one, 1, greatest-1))
	b.handle(timeAsked(1, one, 2)).sent(timeTold(1, one, 2, greatest))
	b.nothing(timeAsked(1, one, 2))
	if l := b.slow.records; !same(l[len(l)-1], limitRose(greatest)) {
		t.Errorf("records: %s", briefs(l))
	}
}

// P15.2: times up to the limit that was noted are given also where no other one can be.
func TestTimeUpToLimit(t *testing.T) {
	b := opened(t, tight(t, txn(0, 1, 1), 20), 0, 2)
	one := txn(1, 1, 1)
	for i := range uint64(100) {
		b.handle(timeAsked(1, one, 1)).sent(timeTold(1, one, 1, i+1))
	}
	b.nothing(timeAsked(1, one, 1)).nothing(timeAsked(1, one, 1))
}

// P15.2, P15.3: a start comes to a run at the stage 1: what it reads first is asked for, or, if it reads nothing, the votes of all; without both it is over.
func TestStart(t *testing.T) {
	reads, writes := atReads, atWrites
	for _, start := range []uint64{1, 50, greatest} {
		b := fresh(t, 1, 3)
		one := b.begin(program(reads, writes...))
		b.sent(timeAsked(1, one, 1))
		b.handle(timeTold(1, one, 1, start)).sent(keyAsked(1, 2, one, start, reads[0])).check()
		two := b.begin(program(nil, writes...))
		b.sent(timeAsked(1, two, 1))
		b.handle(timeTold(1, two, 1, start)).sent(
			voteAsked(1, 0, two, start, writes[2]), voteAsked(1, 1, two, start, writes[1], writes[3]), voteAsked(1, 2, two, start, writes[0]),
		).check()
		three := b.begin(program(nil))
		b.sent(timeAsked(1, three, 1))
		b.handle(timeTold(1, three, 1, start)).sent().check()
		if o, ok := b.fast.Outcome(three); !ok || o.Stage != 5 || o.Start != start || o.Commit != start {
			t.Errorf("%v", o)
		}
		if len(b.slow.records) != 1 || b.fast.Running() != 2 {
			t.Errorf("records: %s", briefs(b.slow.records))
		}
	}
}

// P15.2: a start of 0 is none, and one that comes to a run behind the stage 1 changes nothing; nor do times for what no run asks.
func TestStartElsewhere(t *testing.T) {
	for stage := 1; stage <= 6; stage++ {
		b, one := at(t, stage)
		b.nothing(timeTold(1, one, 1, 0))
		for _, a := range []uint64{0, 3, 4, 1 << 32, 1<<32 + 1, greatest} {
			b.nothing(timeTold(1, one, a, 70))
		}
		if stage > 1 {
			b.nothing(timeTold(1, one, 1, 70)).nothing(timeTold(1, one, 1, 50)).nothing(timeTold(1, one, 1, 1))
		}
	}
}

// strangers are transactions that aren't this run of this life.
func strangers(one api.Txn) []api.Txn {
	return []api.Txn{
		{}, txn(one.Node-1, one.Life, one.Seq), txn(one.Node+1, one.Life, one.Seq), txn(one.Node, one.Life-1, one.Seq), txn(one.Node, one.Life+1, one.Seq),
		txn(one.Node, one.Life, 0), txn(one.Node, one.Life, one.Seq+1), txn(one.Node, one.Life, -one.Seq), txn(one.Node, one.Life, mostInt), txn(one.Node, one.Life, leastInt), txn(-one.Node, -one.Life, -one.Seq),
	}
}

// P15.2: what is for a run that isn't, or is of another life or node, does nothing, at whatever stage this one is.
func TestNoRun(t *testing.T) {
	for stage := 1; stage <= 6; stage++ {
		b, one := at(t, stage)
		for _, other := range strangers(one) {
			for _, m := range heard(other) {
				b.nothing(m)
			}
		}
	}
	b, one := at(t, 4)
	b = b.again()
	for _, m := range heard(one) {
		b.nothing(m)
	}
}

// P15.2: a commit's time that is above the start comes to a run at the stage 4: the record 6 is made, and 7 goes to all who have a part, those that voted first, too.
func TestCommit(t *testing.T) {
	for _, time := range []uint64{51, 60, 1 << 40, greatest} {
		b, one := at(t, 4)
		b.handle(timeTold(1, one, 2, time)).sent(endTold(1, 0, one, time), endTold(1, 1, one, time), endTold(1, 2, one, time)).check()
		if l := b.slow.records; len(l) != 2 || !same(l[1], runCommitted(one, time, atWrites...)) {
			t.Errorf("records: %s", briefs(l))
		}
		if o, _ := b.fast.Outcome(one); o.Stage != 5 || o.Start != 50 || o.Commit != time || !slices.Equal(o.Writes, atWrites) {
			t.Errorf("%v", o)
		}
		b.nothing(timeTold(1, one, 2, time)).nothing(timeTold(1, one, 2, time-1))
	}
}

// P15.2: one that isn't above the start does nothing, and makes no record.
func TestCommitTooEarly(t *testing.T) {
	b, one := at(t, 4)
	for _, time := range []uint64{0, 1, 49, 50} {
		b.nothing(timeTold(1, one, 2, time))
	}
	b.handle(timeTold(1, one, 2, 51)).sentAsSlow().check()
}

// P15.2: one that comes at another stage does nothing.
func TestCommitElsewhere(t *testing.T) {
	for _, stage := range []int{1, 2, 3, 5, 6} {
		b, one := at(t, stage)
		for _, time := range []uint64{0, 1, 50, 51, 60, 61, greatest} {
			b.nothing(timeTold(1, one, 2, time))
		}
	}
}

// P15.2: where the record 6 can't be, as the disk is full, or its power is gone, the run is aborted, and 7 with B 0 goes to all who have a part.
func TestCommitWithoutRecord(t *testing.T) {
	aborted := func(one api.Txn) []msg.Msg {
		return []msg.Msg{endTold(1, 0, one, 0), endTold(1, 1, one, 0), endTold(1, 2, one, 0)}
	}
	for fuse := range 4 {
		b, one := at(t, 4)
		records := len(b.slow.records)
		b.fuse(fuse).handle(timeTold(1, one, 2, 60))
		if len(b.slow.records) > records {
			b.sentAsSlow()
			continue
		}
		b.sent(aborted(one)...)
		if o, _ := b.fast.Outcome(one); o.Stage != 6 || o.Start != 50 || o.Commit != 0 || !b.fast.Over() {
			t.Errorf("%v", o)
		}
	}
	b := opened(t, tight(t, txn(0, 1, 1), 30), 1, 3)
	one := b.begin(program(nil, atWrites...))
	b.handle(timeTold(1, one, 1, 50)).handle(voteTold(0, 1, one, 1)).handle(voteTold(1, 1, one, 1)).handle(voteTold(2, 1, one, 1)).sentAsSlow()
	b.handle(timeTold(1, one, 2, 60)).sent(aborted(one)...).check()
	if o, _ := b.fast.Outcome(one); o.Stage != 6 || b.fast.Over() {
		t.Errorf("%v", o)
	}
	b.nothing(timeTold(1, one, 2, 61)).handle(endAsked(0, 1, one)).sent(endTold(1, 0, one, 0))
	b.handle(endAsked(2, 1, one)).sent(endTold(1, 2, one, 0)).check()
}

// P15.2: a run whose writes are all at one node, or at five, tells just these.
func TestCommitParts(t *testing.T) {
	for _, nodes := range [][]int{{0}, {3}, {2, 2, 2}, {4, 1}, {4, 3, 2, 1, 0}, {0, 1, 2, 3, 4, 4, 0, 2}} {
		b := fresh(t, 3, 5)
		p := program(nil, puts(keysOf(5, nodes...)...)...)
		one := b.begin(p)
		b.sent(timeAsked(3, one, 1))
		rising := slices.Compact(slices.Sorted(slices.Values(nodes)))
		var asked, told []msg.Msg
		for _, node := range rising {
			asked = append(asked, voteAsked(3, node, one, 9, partOf(p, nodes, node)...))
			told = append(told, endTold(3, node, one, 12))
		}
		b.handle(timeTold(3, one, 1, 9)).sent(asked...)
		for i, node := range rising {
			b.handle(voteTold(node, 3, one, 1))
			if i < len(rising)-1 {
				b.sent()
			}
		}
		b.sent(timeAsked(3, one, 2))
		b.handle(timeTold(3, one, 2, 12)).sent(told...).check()
	}
}

// partOf are the writes that are at a node, if the i-th one is at the i-th of nodes.
func partOf(p coord.Prog, nodes []int, node int) []api.Write {
	var l []api.Write
	for i, at := range nodes {
		if at == node {
			l = append(l, p.Writes[i])
		}
	}
	return l
}
