package node_test

import (
	"strings"
	"testing"

	"isogloss/api"
	"isogloss/coord"
	"isogloss/msg"
)

// withKey is the node 1 of three, in whose store a key has a value at 5, another one at 8, is gone at 11, and has one at 14 again.
func withKey(t *testing.T, key string) *both {
	t.Helper()
	var records []msg.Msg
	for i, w := range []api.Write{put(key, "five"), put(key, ""), drop(key), put(key, "fourteen")} {
		one := txn(0, 1, i+1)
		records = append(records, partPrepared(one, uint64(4+3*i), w), partEnded(one, uint64(5+3*i)))
	}
	return fresh(t, 1, 3, records...)
}

// P15.2: the message 3: what a key has at a time, ahead of its first version and behind its last one; of what is gone, and of what has none, nothing is found.
func TestKey(t *testing.T) {
	for _, key := range []string{"\x60", "\x60k", "\x7f" + strings.Repeat("k", 99)} {
		b := withKey(t, key)
		one := txn(2, 7, 3)
		none := func(time uint64) msg.Msg { return keyNone(1, 2, one, time, key) }
		for time, want := range map[uint64]msg.Msg{
			0: none(0), 1: none(1), 4: none(4), 11: none(11), 13: none(13),
			5: keyTold(1, 2, one, 5, key, 5, "five"), 7: keyTold(1, 2, one, 7, key, 5, "five"),
			8: keyTold(1, 2, one, 8, key, 8, ""), 10: keyTold(1, 2, one, 10, key, 8, ""),
			14: keyTold(1, 2, one, 14, key, 14, "fourteen"), greatest: keyTold(1, 2, one, greatest, key, 14, "fourteen"),
		} {
			b.handle(keyAsked(2, 1, one, time, key)).sent(want)
		}
		for _, other := range []string{key + "\x00", "\x61", "\x7f"} {
			b.handle(keyAsked(2, 1, one, 9, other)).sent(keyNone(1, 2, one, 9, other))
		}
		b.check()
	}
}

// P15.2: who asks is answered, also this node itself; a key of another node is one that has nothing here, and one of no bytes is a key.
func TestKeyOfWhom(t *testing.T) {
	b := withKey(t, "\x60k")
	for from := range 3 {
		one := txn(from, 1, 1)
		b.handle(keyAsked(from, 1, one, 9, "\x60k")).sent(keyTold(1, from, one, 9, "\x60k", 8, ""))
		for _, key := range []string{"", "\x00k", "\xffk", strings.Repeat("\xff", 101)} {
			b.handle(keyAsked(from, 1, one, 9, key)).sent(keyNone(1, from, one, 9, key))
		}
	}
	b.check()
}

// P15.2: a key that is locked is busy, at each time, for who has locked it as well as for others; it isn't behind the end.
func TestKeyBusy(t *testing.T) {
	for _, time := range []uint64{0, 20} {
		b := withKey(t, "\x60k")
		one := txn(2, 1, 1)
		b.handle(voteAsked(2, 1, one, 15, put("\x60k", "new"), drop("\x60m"))).sent(voteTold(1, 2, one, 1))
		for _, key := range []string{"\x60k", "\x60m"} {
			for _, at := range []uint64{0, 4, 9, 14, 15, greatest} {
				b.handle(keyAsked(2, 1, one, at, key)).sent(keyBusy(1, 2, one, at, key))
				b.handle(keyAsked(0, 1, txn(0, 1, 1), at, key)).sent(keyBusy(1, 0, txn(0, 1, 1), at, key))
			}
		}
		b.handle(keyAsked(2, 1, one, 9, "\x60n")).sent(keyNone(1, 2, one, 9, "\x60n"))
		b.handle(endTold(2, 1, one, time)).sent(doneTold(1, 2, one))
		b.handle(keyAsked(2, 1, one, 9, "\x60k")).sent(keyTold(1, 2, one, 9, "\x60k", 8, ""))
		want := keyTold(1, 2, one, 25, "\x60k", 14, "fourteen")
		if time > 0 {
			want = keyTold(1, 2, one, 25, "\x60k", 20, "new")
		}
		b.handle(keyAsked(2, 1, one, 25, "\x60k")).sent(want)
		b.handle(keyAsked(2, 1, one, 25, "\x60m")).sent(keyNone(1, 2, one, 25, "\x60m")).check()
	}
}

// checkReads holds what a run has read.
func (b *both) checkReads(one api.Txn, want ...coord.Read) {
	b.t.Helper()
	o, ok := b.fast.Outcome(one)
	if !ok || len(o.Reads) != len(want) {
		b.t.Fatalf("Outcome(%v): %v", one, o)
	}
	for i, x := range want {
		if o.Reads[i] != x {
			b.t.Errorf("the read %d is %v, not %v", i, o.Reads[i], x)
		}
	}
}

// P15.2, P15.3: the message 4: found or not, the key is read, and what comes next is asked for: the next key, and behind the last one the votes.
func TestRead(t *testing.T) {
	reads := []string{"\xffr", "\x00r", "\x60r", "\x00r", "\x00r", ""}
	b := fresh(t, 1, 3)
	one := b.begin(program(reads, put("\xffw", "w"), put("\x00w", "w")))
	b.handle(timeTold(1, one, 1, 50)).sent(timeAsked(1, one, 1), keyAsked(1, 2, one, 50, "\xffr"))
	var want []coord.Read
	for i, key := range reads {
		from := slowOwner(key, 3)
		m := keyTold(from, 1, one, 50, key, uint64(40+i), strings.Repeat("v", i))
		if i%2 == 1 {
			m = keyNone(from, 1, one, 50, key)
		}
		want = append(want, coord.Read{Key: key, Found: m.Found, V: m.V})
		b.handle(m)
		if i < len(reads)-1 {
			next := reads[i+1]
			b.sent(keyAsked(1, slowOwner(next, 3), one, 50, next))
		}
		b.checkReads(one, want...)
	}
	b.sent(voteAsked(1, 0, one, 50, put("\x00w", "w")), voteAsked(1, 2, one, 50, put("\xffw", "w"))).check()
}

// P15.2: a run that writes nothing has committed when all is read, at its start, and asks nobody any more.
func TestReadOnly(t *testing.T) {
	b := fresh(t, 1, 3)
	one := b.begin(program([]string{"\xffr"}))
	b.handle(timeTold(1, one, 1, 50)).sent(timeAsked(1, one, 1), keyAsked(1, 2, one, 50, "\xffr"))
	b.handle(keyTold(2, 1, one, 50, "\xffr", 7, "v")).sent().check()
	b.checkReads(one, coord.Read{Key: "\xffr", Found: true, V: api.Version{Time: 7, Value: "v"}})
	if o, _ := b.fast.Outcome(one); o.Stage != 5 || o.Commit != 50 || b.fast.Running() != 0 || len(b.slow.records) != 1 {
		t.Errorf("%v", o)
	}
	b.tick().sent().handle(endAsked(2, 1, one)).sent(endTold(1, 2, one, 50))
}

// P15.2: a key that is busy isn't read, and not asked for again but by Tick; another B than 1 doesn't say so.
func TestReadBusy(t *testing.T) {
	b, one := at(t, 2)
	for range 3 {
		b.nothing(keyBusy(2, 1, one, 50, atReads[0]))
	}
	found := keyTold(2, 1, one, 50, atReads[0], 7, "seven")
	found.B = 1
	b.nothing(found)
	b.tick().sent(keyAsked(1, 2, one, 50, atReads[0]))
	found.B = 2
	b.handle(found).sent(keyAsked(1, 0, one, 50, atReads[1]))
	b.checkReads(one, coord.Read{Key: atReads[0], Found: true, V: found.V})
	b.nothing(keyBusy(0, 1, one, 50, atReads[1]))
}

// P15.2: of another key than the next one nothing is read: of one that was read, one that comes later, one that is written, one that is alike.
func TestReadAnother(t *testing.T) {
	b, one := at(t, 2)
	for _, key := range []string{"", atReads[1], atWrites[0].Key, atReads[0] + "\x00", atReads[0][1:]} {
		b.nothing(keyTold(2, 1, one, 50, key, 7, "v")).nothing(keyNone(0, 1, one, 50, key))
	}
	b.handle(keyNone(2, 1, one, 50, atReads[0])).sent(keyAsked(1, 0, one, 50, atReads[1]))
	b.nothing(keyTold(2, 1, one, 50, atReads[0], 7, "seven")).nothing(keyNone(2, 1, one, 50, atReads[0]))
	b.handle(keyNone(0, 1, one, 50, atReads[1])).sentAsSlow().check()
}

// P15.2: at each other stage nothing is read.
func TestReadElsewhere(t *testing.T) {
	for _, stage := range []int{1, 3, 4, 5, 6} {
		b, one := at(t, stage)
		for _, key := range append([]string{"", "k"}, atReads...) {
			b.nothing(keyTold(2, 1, one, 50, key, 7, "v")).nothing(keyNone(2, 1, one, 50, key)).nothing(keyBusy(2, 1, one, 50, key))
		}
	}
}
