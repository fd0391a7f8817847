package node_test

import (
	"testing"

	"isogloss/api"
	"isogloss/msg"
	"isogloss/node"
)

// P15.2: at each stage what the run waits for is asked for once more; and nothing behind its end, but for what was committed.
func TestTick(t *testing.T) {
	for stage := 1; stage <= 6; stage++ {
		b, one := at(t, stage)
		want := [][]msg.Msg{
			1: {timeAsked(1, one, 1)},
			2: {keyAsked(1, 2, one, 50, atReads[0])},
			3: {voteAsked(1, 0, one, 50, atWrites[2]), voteAsked(1, 1, one, 50, atWrites[1], atWrites[3]), voteAsked(1, 2, one, 50, atWrites[0])},
			4: {timeAsked(1, one, 2)},
			5: {endTold(1, 0, one, 60), endTold(1, 1, one, 60), endTold(1, 2, one, 60)},
			6: nil,
		}[stage]
		for range 3 {
			b.tick().sent(want...).check()
		}
		b.tick().tick().sent(append(want, want...)...)
	}
}

// P15.2: at 2 the key that is next, at 3 just those who are waited for.
func TestTickOnTheWay(t *testing.T) {
	b, one := at(t, 2)
	b.handle(keyNone(2, 1, one, 50, atReads[0])).sentAsSlow()
	b.tick().sent(keyAsked(1, 0, one, 50, atReads[1]))
	b.handle(keyNone(0, 1, one, 50, atReads[1])).sentAsSlow()
	b.handle(voteTold(1, 1, one, 1)).sent()
	b.tick().sent(voteAsked(1, 0, one, 50, atWrites[2]), voteAsked(1, 2, one, 50, atWrites[0]))
	b.handle(voteTold(0, 1, one, 1)).sent()
	b.tick().sent(voteAsked(1, 2, one, 50, atWrites[0])).check()
}

// P15.2: of several runs by Seq, each at its stage; then of what has committed; then of what is prepared.
func TestTickOfMany(t *testing.T) {
	b := fresh(t, 1, 3, runCommitted(txn(1, 2, 1), 9, puts("\xffa", "\x00b")...), runCommitted(txn(1, 1, 7), 12, puts("\x60c")...), lifeBegan(2))
	var l []api.Txn
	for i := range 12 {
		l = append(l, b.begin(program([]string{"\x00r"}, put("\x60w", ""))))
		m := []msg.Msg{timeTold(1, l[i], 1, 20), keyNone(0, 1, l[i], 20, "\x00r"), voteTold(1, 1, l[i], 1), timeTold(1, l[i], 2, 30)}
		for _, m := range m[:i%5] {
			b.handle(m)
		}
	}
	for _, one := range []api.Txn{txn(2, 1, 1), txn(0, 3, 1), txn(0, 2, 9), txn(1, 3, 1), txn(0, 2, 10)} {
		b.handle(voteAsked(one.Node, 1, one, 5, put(keyOf(1, 3, string(rune('a'+one.Seq+20*one.Node+3*one.Life))), "")))
	}
	b.sentAsSlow()
	var want []msg.Msg
	for i, one := range l {
		switch i % 5 {
		case 0:
			want = append(want, timeAsked(1, one, 1))
		case 1:
			want = append(want, keyAsked(1, 0, one, 20, "\x00r"))
		case 2:
			want = append(want, voteAsked(1, 1, one, 20, put("\x60w", "")))
		case 3:
			want = append(want, timeAsked(1, one, 2))
		}
	}
	want = append(want, endTold(1, 1, txn(1, 1, 7), 12), endTold(1, 0, txn(1, 2, 1), 9), endTold(1, 2, txn(1, 2, 1), 9), endTold(1, 1, l[4], 30), endTold(1, 1, l[9], 30))
	want = append(want, endAsked(1, 0, txn(0, 2, 9)), endAsked(1, 0, txn(0, 2, 10)), endAsked(1, 0, txn(0, 3, 1)), endAsked(1, 1, txn(1, 3, 1)), endAsked(1, 2, txn(2, 1, 1)))
	b.tick().sent(want...).check()
}

// P15.2: of nothing nothing is sent, nor of a run that is over and wrote nothing.
func TestTickOfNothing(t *testing.T) {
	for nodes := 1; nodes <= 5; nodes++ {
		b := fresh(t, nodes-1, nodes)
		b.tick().sent().check()
		one := b.begin(program(nil))
		b.handle(timeTold(nodes-1, one, 1, 7)).sent(timeAsked(nodes-1, one, 1))
		b.tick().sent().check()
	}
}

// P15.2: where the log is over Tick goes on.
func TestTickOver(t *testing.T) {
	b, one := at(t, 3)
	b.handle(voteAsked(2, 1, preparedTxn, 5, preparedWrites...)).sent(voteTold(1, 2, preparedTxn, 1))
	b.fuse(0).nothing(endTold(2, 1, preparedTxn, 0))
	b.tick().sent(
		voteAsked(1, 0, one, 50, atWrites[2]), voteAsked(1, 1, one, 50, atWrites[1], atWrites[3]), voteAsked(1, 2, one, 50, atWrites[0]),
		endAsked(1, 2, preparedTxn),
	).check()
}

// P15.3: Send answers all that is to be sent, in the order in which it came to be, and then nothing more.
func TestSend(t *testing.T) {
	b := fresh(t, 0, 1)
	one := b.begin(program(nil, put("k", "v")))
	two := b.begin(program([]string{"k"}))
	b.handle(timeAsked(0, one, 1)).handle(timeTold(0, one, 1, 1)).tick().handle(endAsked(0, 0, txn(0, 9, 9)))
	b.sent(
		timeAsked(0, one, 1), timeAsked(0, two, 1), timeTold(0, one, 1, 1), voteAsked(0, 0, one, 1, put("k", "v")),
		voteAsked(0, 0, one, 1, put("k", "v")), timeAsked(0, two, 1), endTold(0, 0, txn(0, 9, 9), 0),
	)
	b.sent().sent().tick().sentAsSlow().check()
}

// P15.2, P15.3: the chapter's example: one node, whose own messages are handed to it, commits; message by message.
func TestExample(t *testing.T) {
	b := fresh(t, 0, 1)
	one := b.begin(program([]string{"k"}, put("k", "v")))
	b.sent(timeAsked(0, one, 1))
	b.handle(timeAsked(0, one, 1)).sent(timeTold(0, one, 1, 1))
	b.handle(timeTold(0, one, 1, 1)).sent(keyAsked(0, 0, one, 1, "k"))
	b.handle(keyAsked(0, 0, one, 1, "k")).sent(keyNone(0, 0, one, 1, "k"))
	b.handle(keyNone(0, 0, one, 1, "k")).sent(voteAsked(0, 0, one, 1, put("k", "v")))
	b.handle(voteAsked(0, 0, one, 1, put("k", "v"))).sent(voteTold(0, 0, one, 1))
	b.handle(voteTold(0, 0, one, 1)).sent(timeAsked(0, one, 2))
	b.handle(timeAsked(0, one, 2)).sent(timeTold(0, one, 2, 2))
	b.handle(timeTold(0, one, 2, 2)).sent(endTold(0, 0, one, 2))
	b.handle(endTold(0, 0, one, 2)).sent(doneTold(0, 0, one))
	b.handle(doneTold(0, 0, one)).sent().tick().sent().check()
	if o, ok := b.fast.Outcome(one); !ok || o.Stage != 5 || o.Start != 1 || o.Commit != 2 || len(o.Reads) != 1 || o.Reads[0].Found {
		t.Errorf("%v", o)
	}
	if v, ok := b.fast.Store().At("k", 2); !ok || v != (api.Version{Time: 2, Value: "v"}) {
		t.Errorf("%v", v)
	}
	want := []msg.Msg{lifeBegan(1), limitRose(100), partPrepared(one, 1, put("k", "v")), runCommitted(one, 2, put("k", "v")), partEnded(one, 2)}
	for i, m := range b.slow.records {
		if !same(m, want[i]) {
			t.Errorf("the record %d is %s", i, brief(m))
		}
	}
}

// P15.3: Outcome of a run at each stage; none of what isn't a run of this life.
func TestOutcome(t *testing.T) {
	for stage := 1; stage <= 6; stage++ {
		b, one := at(t, stage)
		o, ok := b.fast.Outcome(one)
		want := node.Outcome{Stage: stage, Start: 50, Reads: b.slow.runs[0].took, Writes: atWrites}
		switch stage {
		case 1:
			want.Start = 0
		case 5:
			want.Commit = 60
		}
		if !ok || !sameOutcome(o, want) || stage > 2 && len(o.Reads) != 2 {
			t.Errorf("%v, %t, not %v", o, ok, want)
		}
		for _, other := range strangers(one) {
			if o, ok := b.fast.Outcome(other); ok || !sameOutcome(o, node.Outcome{}) {
				t.Errorf("Outcome(%v): %v", other, o)
			}
		}
		if o, ok := b.again().fast.Outcome(one); ok || !sameOutcome(o, node.Outcome{}) {
			t.Errorf("in the next life: %v", o)
		}
	}
}

// P15.3: Running counts the runs at the stages 1 to 4, Locked those that are prepared, whoever runs them.
func TestRunningAndLocked(t *testing.T) {
	for stage := 1; stage <= 6; stage++ {
		b, one := at(t, stage)
		want := 1
		if stage > 4 {
			want = 0
		}
		b.handle(voteAsked(2, 1, preparedTxn, 5, preparedWrites...)).handle(voteAsked(1, 1, one, 50, atWrites[1], atWrites[3])).sentAsSlow()
		if b.fast.Running() != want || b.fast.Locked() != 2 {
			t.Errorf("at %d: %d run, and %d are prepared", stage, b.fast.Running(), b.fast.Locked())
		}
		b.begin(program(nil))
		b.begin(program(nil, puts("\x60other")...))
		b.handle(endTold(2, 1, preparedTxn, 0)).sentAsSlow()
		if b.fast.Running() != want+2 || b.fast.Locked() != 1 {
			t.Errorf("at %d: %d run, and %d are prepared", stage, b.fast.Running(), b.fast.Locked())
		}
		b = b.again()
		if b.fast.Running() != 0 || b.fast.Locked() != 1 {
			t.Errorf("opened again: %d run, and %d are prepared", b.fast.Running(), b.fast.Locked())
		}
	}
}

// P15.3: Over, at each fuse of the disk: from the call on that needs more writes than there are, or power behind the last one.
func TestOver(t *testing.T) {
	for fuse := range 12 {
		b := fresh(t, 0, 1).fuse(fuse)
		var l []api.Txn
		for i := range 3 {
			l = append(l, b.begin(program(nil, puts(keysOf(1, 0, 0)[i%2])...)))
		}
		for range 12 {
			for _, m := range b.fast.Send() {
				b.slow.out = nil
				b.fast.Handle(m)
				b.slow.handle(m)
				b.checkNumbers()
			}
		}
		if over := b.fast.Over(); over != b.slow.over || fuse < 5 && !over {
			t.Errorf("a fuse of %d: %t", fuse, over)
		}
		b.check()
	}
}

// P15.3: Store is the store: what it tells is what was committed, and what is installed in it is read.
func TestStore(t *testing.T) {
	b := prepared(t)
	s := b.fast.Store()
	b.handle(endTold(2, 1, preparedTxn, 6)).sent(doneTold(1, 2, preparedTxn)).check()
	if v, ok := s.At("\x60k", 6); !ok || v.Value != "v" || b.fast.Store() != s {
		t.Errorf("%v", v)
	}
	if e := s.Install("\x60new", api.Version{Time: 3, Value: "by hand"}); e != api.OK {
		t.Errorf("error %d", e)
	}
	one := txn(0, 1, 1)
	b.fast.Handle(keyAsked(0, 1, one, 9, "\x60new"))
	if l := b.fast.Send(); len(l) != 1 || !same(l[0], keyTold(1, 0, one, 9, "\x60new", 3, "by hand")) {
		t.Errorf("%s", briefs(l))
	}
}
