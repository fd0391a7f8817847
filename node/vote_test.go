package node_test

import (
	"strings"
	"testing"

	"isogloss/api"
	"isogloss/msg"
)

// P15.2: yes: what may be prepared is, behind a record, and locked.
func TestVote(t *testing.T) {
	for nodes := 1; nodes <= 5; nodes++ {
		for id := range nodes {
			b := fresh(t, id, nodes)
			var want []msg.Msg
			for i := range 4 {
				one := txn(i%nodes, 1+i, 1)
				l := []api.Write{put(keyOf(id, nodes, "a"+strings.Repeat("x", i)), "v"), drop(keyOf(id, nodes, "b"+strings.Repeat("x", i)))}
				b.handle(voteAsked(i%nodes, id, one, uint64(i), l...)).sent(voteTold(id, i%nodes, one, 1)).check()
				want = append(want, partPrepared(one, uint64(i), l...))
				if b.fast.Locked() != i+1 {
					t.Errorf("Locked: %d", b.fast.Locked())
				}
			}
			for i, m := range want {
				if !same(b.slow.records[1+i], m) {
					t.Errorf("records: %s", briefs(b.slow.records))
				}
			}
			if len(b.fast.Store().Keys()) > 0 {
				t.Error("something is in the store")
			}
		}
	}
}

// P15.2: as many writes as there may be, and the longest ones.
func TestVoteGreatest(t *testing.T) {
	b := fresh(t, 0, 2)
	one, two := txn(0, 1, 1), txn(1, 1, 1)
	b.handle(voteAsked(0, 0, one, 5, puts(manyKeys(8)...)...)).sent(voteTold(0, 0, one, 1))
	b.handle(voteAsked(1, 0, two, 5, put(strings.Repeat("k", 100), strings.Repeat("v", 500)))).sent(voteTold(0, 1, two, 1))
	b.check()
}

// no holds that a vote is no, that no record is made, and that nothing is prepared.
func (b *both) no(m msg.Msg) {
	b.t.Helper()
	records, locked := len(b.slow.records), b.fast.Locked()
	b.handle(m).sent(voteTold(b.slow.id, m.From, m.Txn, 0)).check()
	if len(b.slow.records) != records || b.fast.Locked() != locked {
		b.t.Errorf("%s made a record", brief(m))
	}
}

// P15.2: no for each of layer 13's errors: what is no writes, what is too long, what is locked, what was committed later.
func TestVoteNo(t *testing.T) {
	key := "\x60k"
	b := withKey(t, key)
	locker := txn(0, 9, 9)
	b.handle(voteAsked(0, 1, locker, 15, put("\x60locked", ""))).sent(voteTold(1, 0, locker, 1))
	l := puts(manyKeys(9)...)
	for i := range l {
		l[i].Key = "\x60" + l[i].Key
	}
	for _, writes := range [][]api.Write{
		nil, {}, l, {put("\x60m", ""), put("\x60m", "")}, {put("\x60m", ""), drop("\x60m")}, {{Key: "\x60m", Gone: true, Value: "v"}},
		{put("\x60"+strings.Repeat("k", 100), "")}, {put("\x60m", strings.Repeat("v", 501))}, {put("\x60m", ""), put("\x60n", strings.Repeat("v", 501))},
		{put("\x60locked", "")}, {put("\x60m", ""), drop("\x60locked")}, {put(key, "")}, {put("\x60m", ""), drop(key)},
	} {
		b.no(voteAsked(2, 1, txn(2, 1, 1), 13, writes...))
		b.no(voteAsked(1, 1, txn(1, 1, 1), 0, writes...))
	}
	b.handle(voteAsked(2, 1, txn(2, 1, 1), 14, put("\x60m", ""), drop(key))).sent(voteTold(1, 2, txn(2, 1, 1), 1)).check()
}

// P15.2: no, where a key has no room for one more version.
func TestVoteNoRoom(t *testing.T) {
	b := opened(t, recorded(t, 400), 1, 2)
	key := "\xffk"
	for i := range 200 {
		one := txn(0, 1, i+1)
		b.handle(voteAsked(0, 1, one, uint64(i), put(key, ""))).sent(voteTold(1, 0, one, 1))
		b.handle(endTold(0, 1, one, uint64(i+1))).sent(doneTold(1, 0, one))
	}
	b.no(voteAsked(0, 1, txn(0, 2, 1), 500, put(key, "")))
	b.no(voteAsked(0, 1, txn(0, 2, 1), 500, put("\xffm", ""), drop(key)))
	b = b.again()
	b.no(voteAsked(0, 1, txn(0, 2, 1), 500, put(key, "")))
}

// P15.2: no, if a key is another node's, wherever it stands among the others.
func TestVoteForeign(t *testing.T) {
	b := fresh(t, 1, 3)
	for _, key := range []string{"", "\x00k", "\x55k", "\xabk", "\xff"} {
		own := puts("\x56k", "\x60m", "\xaan")
		for i := range 4 {
			l := append(append(append([]api.Write{}, own[:i]...), put(key, "v")), own[i:]...)
			b.no(voteAsked(2, 1, txn(2, 1, 1), 5, l...))
		}
		b.no(voteAsked(2, 1, txn(2, 1, 1), 5, drop(key)))
	}
	b.handle(voteAsked(2, 1, txn(2, 1, 1), 5, puts("\x56k", "\x60m", "\xaan")...)).sent(voteTold(1, 2, txn(2, 1, 1), 1)).check()
}

// P15.2: of what is prepared already the vote is yes, whatever is asked with it; it stays as it was, and no record is made.
func TestVoteAgain(t *testing.T) {
	b := fresh(t, 1, 3)
	one := txn(2, 1, 1)
	b.handle(voteAsked(2, 1, one, 5, put("\x60k", "v"))).sent(voteTold(1, 2, one, 1))
	records := len(b.slow.records)
	for range 2 {
		for _, m := range []msg.Msg{voteAsked(2, 1, one, 5, put("\x60k", "v")), voteAsked(0, 1, one, 9, put("\x60m", "w")), voteAsked(2, 1, one, 0), voteAsked(2, 1, one, 5, put("\xffk", ""))} {
			b.handle(m).sent(voteTold(1, m.From, one, 1)).check()
		}
		b.no(voteAsked(2, 1, txn(2, 1, 2), 5, put("\x60k", "v")))
		if len(b.slow.records) != records || b.fast.Locked() != 1 {
			t.Errorf("records: %s", briefs(b.slow.records))
		}
		b = b.again()
		records++
	}
	b.handle(endTold(2, 1, one, 6)).sent(doneTold(1, 2, one)).check()
	if v, ok := b.fast.Store().At("\x60k", 6); !ok || v.Value != "v" || len(b.fast.Store().Keys()) != 1 {
		t.Errorf("%v", v)
	}
}

// P15.2: what has ended may be asked for once more: it is no where it has committed, and yes where it was aborted.
func TestVoteBehindEnd(t *testing.T) {
	b := fresh(t, 1, 3)
	one, two := txn(2, 1, 1), txn(2, 1, 2)
	for _, t := range []api.Txn{one, two} {
		b.handle(voteAsked(2, 1, t, 5, put("\x60k"+strings.Repeat("k", t.Seq), "v"))).sent(voteTold(1, 2, t, 1))
	}
	b.handle(endTold(2, 1, one, 6)).sent(doneTold(1, 2, one))
	b.handle(endTold(2, 1, two, 0)).sent(doneTold(1, 2, two))
	b.no(voteAsked(2, 1, one, 5, put("\x60kk", "v")))
	b.handle(voteAsked(2, 1, two, 5, put("\x60kkk", "v"))).sent(voteTold(1, 2, two, 1)).check()
}

// P15.2: no, where the record can't be: the disk is full, its power is gone, it would be too long, or has no bytes, as a number of Txn is none.
func TestVoteWithoutRecord(t *testing.T) {
	one := txn(2, 1, 1)
	b := opened(t, tight(t, txn(0, 1, 1), 30), 1, 3)
	b.no(voteAsked(2, 1, one, 5, put("\x60k", "long enough")))
	if b.fast.Over() {
		t.Error("it is over")
	}
	b.handle(voteAsked(2, 1, one, 5)).sent(voteTold(1, 2, one, 0))
	b.handle(voteAsked(2, 1, txn(0, 0, 0), 0, drop("\x60"))).sent(voteTold(1, 2, api.Txn{}, 1)).check()
	for fuse := range 3 {
		b := fresh(t, 1, 3).fuse(fuse)
		b.no(voteAsked(2, 1, one, 5, put("\x60k", strings.Repeat("v", 100))))
		if !b.fast.Over() {
			t.Error("it isn't over")
		}
	}
	b = fresh(t, 0, 3)
	b.no(voteAsked(2, 0, one, 5, padded(t, one, 4050)...))
	for _, other := range []api.Txn{txn(-1, 1, 1), txn(0, -1, 1), txn(0, 1, -1), txn(1<<31, 1, 1), txn(0, 1, 1<<31), txn(0, leastInt, mostInt)} {
		b.no(voteAsked(2, 0, other, 5, put("\x00k", "v")))
	}
}

// P15.2, P15.3: yes of each node that is waited for, in whatever order: at the last one, and not ahead of it, the commit's time is asked for.
func TestVotes(t *testing.T) {
	for _, order := range [][]int{{0, 1, 2}, {0, 2, 1}, {1, 0, 2}, {1, 2, 0}, {2, 0, 1}, {2, 1, 0}} {
		b, one := at(t, 3)
		for i, from := range order {
			b.handle(voteTold(from, 1, one, 1))
			if i < 2 {
				b.sent().nothing(voteTold(from, 1, one, 1)).nothing(voteTold(from, 1, one, 0))
			}
		}
		b.sent(timeAsked(1, one, 2)).check()
		if o, _ := b.fast.Outcome(one); o.Stage != 4 {
			t.Errorf("the stage is %d", o.Stage)
		}
		b.nothing(voteTold(order[2], 1, one, 1)).nothing(voteTold(order[2], 1, one, 0))
	}
}

// P15.2: at a no, the first one, one in the midst or the last one, 7 with B 0 goes to all who have a part, to who said it, too; behind it no vote does anything.
func TestVotesNo(t *testing.T) {
	for _, order := range [][]int{{0, 1, 2}, {0, 2, 1}, {1, 0, 2}, {1, 2, 0}, {2, 0, 1}, {2, 1, 0}} {
		for who := range 3 {
			for _, no := range []uint64{0, 2, greatest} {
				b, one := at(t, 3)
				for _, from := range order[:who] {
					b.handle(voteTold(from, 1, one, 1)).sent()
				}
				b.handle(voteTold(order[who], 1, one, no)).sent(endTold(1, 0, one, 0), endTold(1, 1, one, 0), endTold(1, 2, one, 0)).check()
				if o, _ := b.fast.Outcome(one); o.Stage != 6 || o.Commit != 0 || len(b.slow.records) != 1 {
					t.Errorf("the stage is %d", o.Stage)
				}
				for _, from := range order {
					b.nothing(voteTold(from, 1, one, 1)).nothing(voteTold(from, 1, one, 0))
				}
				b.tick().sent()
			}
		}
	}
}

// P15.2: votes of nodes that aren't waited for do nothing; nor do those that come at another stage.
func TestVotesOfOthers(t *testing.T) {
	for stage := 1; stage <= 6; stage++ {
		b, one := at(t, stage)
		for _, from := range []int{-1, 3, 4, 5, 1 << 32, leastInt, mostInt} {
			b.nothing(voteTold(from, 1, one, 1)).nothing(voteTold(from, 1, one, 0))
		}
		for from := range 3 {
			if stage != 3 {
				b.nothing(voteTold(from, 1, one, 1)).nothing(voteTold(from, 1, one, 0))
			}
		}
	}
	b := fresh(t, 1, 3)
	one := b.begin(program(nil, put("\xffk", "")))
	b.handle(timeTold(1, one, 1, 5)).sent(timeAsked(1, one, 1), voteAsked(1, 2, one, 5, put("\xffk", "")))
	b.nothing(voteTold(0, 1, one, 1)).nothing(voteTold(1, 1, one, 0))
	b.handle(voteTold(2, 1, one, 1)).sent(timeAsked(1, one, 2))
}
