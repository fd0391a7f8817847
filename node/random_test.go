package node_test

import (
	"math/rand/v2"
	"strings"
	"testing"

	"isogloss/api"
	"isogloss/coord"
	"isogloss/crc"
	"isogloss/disk"
	"isogloss/msg"
	"isogloss/node"
)

// randomKeys are of which keys are taken at random: of both nodes.
const randomKeys = 8

// randomKey is the i-th of them.
func randomKey(i int) string {
	return []string{"", "\x00", "a", "b", "\x7f", "\x80", "\xff", "\xffm"}[i]
}

// randomWrites are some writes of few keys.
func randomWrites(r *rand.Rand) []api.Write {
	var l []api.Write
	for _, i := range r.Perm(randomKeys)[:1+r.IntN(3)] {
		w := put(randomKey(i), "value"[:r.IntN(5)])
		if r.IntN(3) == 0 {
			w = drop(randomKey(i))
		}
		l = append(l, w)
	}
	return l
}

// randomProgram is a program of few keys.
func randomProgram(r *rand.Rand) coord.Prog {
	var p coord.Prog
	for range r.IntN(4) {
		p.Reads = append(p.Reads, randomKey(r.IntN(randomKeys)))
	}
	if r.IntN(4) > 0 {
		p.Writes = randomWrites(r)
	}
	return p
}

// randomTxn is a transaction: most often one of the runs, or of those that are prepared.
func (b *both) randomTxn(r *rand.Rand) api.Txn {
	works, _ := b.slow.works()
	switch k := r.IntN(10); {
	case k < 5 && len(b.slow.runs) > 0:
		return b.slow.runs[len(b.slow.runs)-1-r.IntN(min(3, len(b.slow.runs)))].txn
	case k < 8 && len(works) > 0:
		return works[r.IntN(len(works))].txn
	}
	return txn(r.IntN(3), b.slow.life()-r.IntN(2), 1+r.IntN(30))
}

// randomAnswer is a message that a run waits for, or nearly so.
func (b *both) randomAnswer(r *rand.Rand, one *slowRun) msg.Msg {
	from, to := r.IntN(b.slow.nodes), b.slow.id
	switch b.slow.stage(one) {
	case 1:
		return timeTold(to, one.txn, 1, uint64(r.IntN(60)))
	case 2:
		key := one.p.Reads[len(one.took)]
		switch r.IntN(4) {
		case 0:
			return keyBusy(from, to, one.txn, one.start, key)
		case 1:
			return keyNone(from, to, one.txn, one.start, key)
		}
		return keyTold(from, to, one.txn, one.start, key, 1+one.start, "read")
	case 3:
		l := b.slow.missing(one)
		return voteTold(l[r.IntN(len(l))], to, one.txn, min(1, uint64(r.IntN(8))))
	case 4:
		return timeTold(to, one.txn, 2, one.start+uint64(r.IntN(10)))
	}
	return doneTold(from, to, one.txn)
}

// randomMsg is a message, most often one that does something.
func (b *both) randomMsg(r *rand.Rand) msg.Msg {
	if n := len(b.slow.runs); n > 0 && r.IntN(2) == 0 {
		return b.randomAnswer(r, b.slow.runs[max(0, n-1-r.IntN(4))])
	}
	m := msg.Msg{Kind: 1 + r.IntN(9), From: r.IntN(b.slow.nodes), To: b.slow.id, Txn: b.randomTxn(r)}
	m.A, m.B, m.Key = uint64(r.IntN(60)), uint64(r.IntN(3)), randomKey(r.IntN(randomKeys))
	switch m.Kind {
	case 1, 2:
		m.A, m.B = uint64(1+r.IntN(2)), uint64(r.IntN(60))
	case 4:
		m.Found, m.V = true, api.Version{Time: 1 + m.A, Value: "read"}
	case 5:
		m.Writes = randomWrites(r)
		if r.IntN(2) == 0 {
			m.Writes = b.slow.partOf(b.slow.id, m.Writes)
		}
	case 7:
		m.B = uint64(r.IntN(3) * r.IntN(70))
	}
	switch r.IntN(60) {
	case 0:
		m.Kind = r.IntN(13) - 1
	case 1:
		m.To = r.IntN(4) - 1
	case 2:
		m.From = r.IntN(9) - 2
	}
	return m
}

// randomCall makes a call at random.
func (b *both) randomCall(r *rand.Rand) {
	b.t.Helper()
	switch k := r.IntN(30); {
	case k < 3 && !b.slow.over:
		b.begin(randomProgram(r))
	case k == 3 && b.slow.over:
		b.refuse(randomProgram(r), api.ErrLost)
	case k == 4:
		b.tick()
	case k == 5 && r.IntN(3) == 0 && b.slow.fuse < 0:
		b.fuse(r.IntN(30))
	case k == 6 && r.IntN(3) == 0 && b.slow.free() >= 20:
		*b = *b.again([]uint8{255, 0, uint8(r.UintN(256))}[:r.IntN(4)]...)
	default:
		b.handle(b.randomMsg(r))
	}
}

// P15.1 to P15.4: many nodes and calls at random, held against the slow node, which reckons anew from its records; with fuses, crashes, and disks that become full.
func TestAtRandom(t *testing.T) {
	r := rand.New(rand.NewPCG(15, 6))
	stages, kinds, over, full := map[int]int{}, map[int]int{}, 0, 0
	for range 300 {
		nodes := 1 + r.IntN(3)
		b := opened(t, disk.New(5+r.IntN(2)*r.IntN(60)), r.IntN(nodes), nodes)
		for i := range 250 {
			b.randomCall(r)
			b.sentAsSlow()
			if i%10 == 0 {
				b.check()
			}
		}
		b.check()
		for _, s := range b.slow.runs {
			stages[b.slow.stage(s)]++
		}
		for _, m := range b.slow.records {
			kinds[m.Kind]++
		}
		if b.slow.over {
			over++
		}
		if b.slow.free() < 20 {
			full++
		}
	}
	for stage := 1; stage <= 6; stage++ {
		if stages[stage] < 20 {
			t.Errorf("%v: too few at the stage %d", stages, stage)
		}
	}
	for _, kind := range []int{1, 2, 5, 6, 7} {
		if kinds[kind] < 50 {
			t.Errorf("%v: too few records of the kind %d", kinds, kind)
		}
	}
	if over < 20 || full < 20 {
		t.Errorf("only %d were over, and %d full", over, full)
	}
}

// R7: two nodes do not hang on one another.
func TestTwoNodes(t *testing.T) {
	one, oneTxn := at(t, 4)
	other, otherTxn := at(t, 3)
	one.handle(timeTold(1, oneTxn, 2, 60)).sentAsSlow().check()
	other.check().tick().sentAsSlow()
	other.handle(voteTold(0, 1, otherTxn, 0)).sentAsSlow().check()
	one.check().tick().sentAsSlow()
	one.handle(voteAsked(2, 1, preparedTxn, 5, preparedWrites...)).sentAsSlow()
	other.check().handle(keyAsked(0, 1, oneTxn, 9, "\x60k")).sent(keyNone(1, 0, oneTxn, 9, "\x60k"))
	other.fuse(0).nothing(timeTold(1, otherTxn, 2, 60))
	one.again()
}

// R7: so of many at random.
func TestManyNodes(t *testing.T) {
	r := rand.New(rand.NewPCG(15, 7))
	for range 5 {
		var l []*both
		for i := range 5 {
			l = append(l, fresh(t, i%2, 2))
		}
		for range 100 {
			l[r.IntN(len(l))].randomCall(r)
			for _, b := range l {
				b.sentAsSlow()
			}
		}
		for _, b := range l {
			b.check()
		}
	}
}

// R1: no call panics, whatever it is asked; also of a node that no Open made, which has no log, runs nothing, and has a store of its own.
func TestWhatever(t *testing.T) {
	long := strings.Repeat("k", 100000)
	wild := []msg.Msg{{}, {From: leastInt, To: 0, Txn: txn(leastInt, mostInt, -1), A: greatest, B: greatest, Key: long, Found: true, V: api.Version{Gone: true, Value: long}, Writes: puts(long, long), Note: long}}
	opened, e := node.Open(crc.Make(), disk.New(50), 0, 1, 3)
	if e != api.OK {
		t.Fatalf("error %d", e)
	}
	for _, n := range []*node.Node{opened, {}} {
		for kind := -1; kind <= 11; kind++ {
			for _, m := range wild {
				for _, one := range []api.Txn{m.Txn, {}, txn(0, 1, 1), txn(0, 1, mostInt)} {
					m.Kind, m.Txn = kind, one
					n.Handle(m)
					n.Tick()
					n.Outcome(one)
				}
			}
		}
		for _, p := range []coord.Prog{{}, program([]string{long}), program(nil, puts(long)...), program(manyKeys(5000), puts(manyKeys(5000)...)...)} {
			n.Begin(p)
		}
		n.Tick()
		n.Send()
		if s := n.Store(); s == nil || len(s.Keys()) > 0 {
			t.Error("the store isn't empty")
		}
		n.Running()
		n.Life()
		n.Version()
	}
	none := &node.Node{}
	if _, e := none.Begin(program(nil)); e != api.ErrLost || !none.Over() || none.Running() != 0 || none.Locked() != 0 || none.Life() != 0 || none.Version() != 0 {
		t.Errorf("error %d", e)
	}
	if none.Tick(); len(none.Send()) > 0 {
		t.Error("something is sent")
	}
	if l := (&node.Node{}).Store().Keys(); len(l) > 0 {
		t.Errorf("%q", l)
	}
}
