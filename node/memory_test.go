package node_test

import (
	"slices"
	"testing"
	"unsafe"

	"isogloss/api"
	"isogloss/coord"
	"isogloss/msg"
)

// lent is a text in memory of its own, which may be written over.
func lent(s string) string {
	room := []byte(s)
	return unsafe.String(unsafe.SliceData(room), len(room))
}

// overwrite writes over the memory of a text, which is the test's own.
func overwrite(s string) {
	if s != "" {
		room := unsafe.Slice(unsafe.StringData(s), len(s))
		for i := range room {
			room[i] = '#'
		}
	}
}

// lentWrites are the same writes, in memory of their own, with spare room behind them.
func lentWrites(l []api.Write) []api.Write {
	own := make([]api.Write, 0, len(l)+3)
	for _, w := range l {
		own = append(own, api.Write{Key: lent(w.Key), Gone: w.Gone, Value: lent(w.Value)})
	}
	spare := own[len(l):cap(own)]
	for i := range spare {
		spare[i] = put("spare", "room")
	}
	return own
}

// lentReads are the same keys, in memory of their own, with spare room behind them.
func lentReads(l []string) []string {
	own := make([]string, 0, len(l)+3)
	for _, key := range l {
		own = append(own, lent(key))
	}
	spare := own[len(l):cap(own)]
	for i := range spare {
		spare[i] = "spare"
	}
	return own
}

// checkLeft holds that what was handed in is as it was, its spare room too.
func checkLeft[T comparable](t *testing.T, l, want []T, spare T) {
	t.Helper()
	if !slices.Equal(l, want) {
		t.Errorf("they became %v", l)
	}
	for _, x := range l[len(l):cap(l)] {
		if x != spare {
			t.Errorf("in the spare room there is %v", x)
		}
	}
}

// overwriteWrites writes over writes, their memory too.
func overwriteWrites(l []api.Write) {
	for i := range l {
		overwrite(l[i].Key)
		overwrite(l[i].Value)
		l[i] = put("other", "one")
	}
	_ = append(l, drop("behind"))
}

// overwriteReads writes over keys, their memory too.
func overwriteReads(l []string) {
	for i := range l {
		overwrite(l[i])
		l[i] = "other"
	}
	_ = append(l, "behind")
}

// lentMsg is the same message, in memory of its own.
func lentMsg(m msg.Msg) msg.Msg {
	m.Key, m.V.Value, m.Note = lent(m.Key), lent(m.V.Value), lent(m.Note)
	m.Writes = lentWrites(m.Writes)
	return m
}

// overwriteMsg writes over what a message has, its memory too.
func overwriteMsg(m msg.Msg) {
	overwrite(m.Key)
	overwrite(m.V.Value)
	overwriteWrites(m.Writes)
}

// P15.2, R5: a program that was handed in is left, whatever the answer, and isn't kept: it is written over behind Begin, and goes through all stages as it was.
func TestProgramIsNotKept(t *testing.T) {
	for _, p := range []coord.Prog{program(manyKeys(9)), program(manyKeys(3), puts("a", "b", "a")...), program(nil, padded(t, txn(1, 1, 1), 4001)...)} {
		b := fresh(t, 1, 3)
		handed := coord.Prog{Reads: lentReads(p.Reads), Writes: lentWrites(p.Writes)}
		if _, e := b.fast.Begin(handed); e == api.OK {
			t.Fatal("it is begun")
		}
		checkLeft(t, handed.Reads, p.Reads, "spare")
		checkLeft(t, handed.Writes, p.Writes, put("spare", "room"))
	}
	b := fresh(t, 1, 3)
	handed := coord.Prog{Reads: lentReads(atReads), Writes: lentWrites(atWrites)}
	one := b.slow.begin(program(atReads, atWrites...))
	if _, e := b.fast.Begin(handed); e != api.OK {
		t.Fatalf("error %d", e)
	}
	checkLeft(t, handed.Reads, atReads, "spare")
	checkLeft(t, handed.Writes, atWrites, put("spare", "room"))
	overwriteReads(handed.Reads)
	overwriteWrites(handed.Writes)
	b.sentAsSlow().check()
	for _, m := range []msg.Msg{timeTold(1, one, 1, 50), keyNone(2, 1, one, 50, atReads[0]), keyNone(0, 1, one, 50, atReads[1]), voteTold(0, 1, one, 1), voteTold(1, 1, one, 1), voteTold(2, 1, one, 1), timeTold(1, one, 2, 60)} {
		b.handle(m).sentAsSlow().tick().sentAsSlow().check()
	}
}

// P15.2, R5: a message that was handed in is left, and isn't kept: it is written over behind the call, and what came of it stays.
func TestMessageIsNotKept(t *testing.T) {
	for stage := 1; stage <= 6; stage++ {
		b, one := at(t, stage)
		b.handle(voteAsked(2, 1, preparedTxn, 5, preparedWrites...)).sentAsSlow()
		l := append(ofEachKind(one), voteAsked(0, 1, txn(0, 5, 5), 5, put("\x60m", "value"), drop("\x61n")), keyAsked(0, 1, one, 9, "\x60m"), keyAsked(0, 1, one, 9, "\x60q"))
		for _, m := range append(l, endTold(0, 1, txn(0, 5, 5), 7), keyAsked(2, 1, one, 9, "\x60m")) {
			handed := lentMsg(m)
			b.fast.Handle(handed)
			b.slow.handle(m)
			if checkLeft(t, handed.Writes, m.Writes, put("spare", "room")); !same(handed, m) {
				t.Errorf("%s became %s", brief(m), brief(handed))
			}
			overwriteMsg(handed)
			b.sentAsSlow().check()
		}
		b.tick().sentAsSlow()
		b.again()
	}
}

// P15.3, R5: what Send answers is new memory: it is written over, and asked for again.
func TestSendIsNew(t *testing.T) {
	for stage := 1; stage <= 6; stage++ {
		b, one := at(t, stage)
		b.handle(voteAsked(2, 1, preparedTxn, 5, preparedWrites...)).sentAsSlow()
		b.handle(voteAsked(0, 1, txn(0, 1, 1), 5, put("\x60read", "value"))).handle(endTold(0, 1, txn(0, 1, 1), 6)).sentAsSlow()
		for range 3 {
			asked := keyAsked(2, 1, one, 9, "\x60read")
			b.tick().handle(asked).tick()
			l := b.fast.Send()
			if !slices.EqualFunc(l, b.slow.out, same) {
				t.Errorf("Send: %s, not %s", briefs(l), briefs(b.slow.out))
			}
			for i := range l {
				half := slices.Clone(b.slow.out[i+1:])
				overwriteMsg(l[i])
				l[i] = msg.Msg{Kind: 77}
				if !slices.EqualFunc(l[i+1:], half, same) {
					t.Errorf("the others became %s", briefs(l[i+1:]))
				}
			}
			b.slow.out = nil
			_ = append(l[:0], msg.Msg{Kind: 78}, msg.Msg{Kind: 79}, msg.Msg{Kind: 80})
			b.sent().check()
		}
		for _, m := range heard(one) {
			b.handle(m).sentAsSlow().check()
		}
	}
}

// P15.3, R5: what was sent stays as it was, whatever is sent later.
func TestSentStays(t *testing.T) {
	b, one := at(t, 3)
	b.tick()
	l := b.fast.Send()
	b.slow.out = nil
	if len(l) != 3 {
		t.Fatalf("%s", briefs(l))
	}
	b.handle(voteTold(0, 1, one, 1)).tick().tick().sentAsSlow()
	want := []msg.Msg{voteAsked(1, 0, one, 50, atWrites[2]), voteAsked(1, 1, one, 50, atWrites[1], atWrites[3]), voteAsked(1, 2, one, 50, atWrites[0])}
	if !slices.EqualFunc(l, want, same) {
		t.Errorf("they became %s", briefs(l))
	}
}

// P15.3, R5: what Outcome answers is new memory: it is written over, grows, and is asked for again.
func TestOutcomeIsNew(t *testing.T) {
	for stage := 1; stage <= 6; stage++ {
		b, one := at(t, stage)
		for range 2 {
			o, _ := b.fast.Outcome(one)
			other, _ := b.fast.Outcome(one)
			want, _ := b.slow.outcome(one)
			for i := range o.Reads {
				overwrite(o.Reads[i].Key)
				overwrite(o.Reads[i].V.Value)
				o.Reads[i] = coord.Read{Key: "other"}
			}
			overwriteWrites(o.Writes)
			_ = append(o.Reads, coord.Read{Key: "behind"})
			_ = append(o.Writes[:1], put("x", "y"), put("z", ""))
			if !sameOutcome(other, want) {
				t.Errorf("the other one became %v, not %v", other, want)
			}
			b.check().tick().sentAsSlow()
		}
		for _, m := range heard(one) {
			b.handle(m).sentAsSlow().check()
		}
		if o, _ := b.fast.Outcome(one); stage == 4 && o.Stage != 5 {
			t.Errorf("the stage is %d", o.Stage)
		}
		b.again()
	}
}

// P15.3, R5: what Outcome told stays as it was, when the run goes on.
func TestOutcomeStays(t *testing.T) {
	b, one := at(t, 2)
	o, _ := b.fast.Outcome(one)
	b.handle(keyNone(2, 1, one, 50, atReads[0])).handle(keyNone(0, 1, one, 50, atReads[1])).handle(voteTold(0, 1, one, 0)).sentAsSlow()
	if o.Stage != 2 || len(o.Reads) != 0 || !slices.Equal(o.Writes, atWrites) {
		t.Errorf("it became %v", o)
	}
}
