package coord_test

import (
	"math/rand/v2"
	"slices"
	"strconv"
	"strings"
	"testing"

	"isogloss/api"
	"isogloss/coord"
)

// randomKey is a key, most of them of few.
func randomKey(r *rand.Rand) string {
	if r.IntN(200) == 0 {
		return strings.Repeat("k", api.MaxKey+r.IntN(2))
	}
	l := []string{"", "\x00", "a", "aa", "ab", "b", "c", "cc", "d", "e", "\xff"}
	return l[r.IntN(len(l))]
}

// randomWrite is a write, most of them right.
func randomWrite(r *rand.Rand) api.Write {
	w := put(randomKey(r), strings.Repeat("v", r.IntN(4)))
	switch k := r.IntN(200); {
	case k == 0:
		w.Gone, w.Value = true, "v"
	case k < 4:
		w.Value = strings.Repeat("v", api.MaxValue+r.IntN(2))
	case k < 60:
		w.Gone, w.Value = true, ""
	}
	return w
}

// randomProg is a program, most of them right.
func randomProg(r *rand.Rand) coord.Prog {
	reads, writes := r.IntN(4), r.IntN(6)
	if r.IntN(20) == 0 {
		reads, writes = r.IntN(11), r.IntN(11)
	}
	var p coord.Prog
	for range reads {
		p.Reads = append(p.Reads, randomKey(r))
	}
	for range writes {
		w := randomWrite(r)
		again := slices.ContainsFunc(p.Writes, func(ahead api.Write) bool { return ahead.Key == w.Key })
		if k := r.IntN(1000); again && k > 20 {
			w.Key += strconv.Itoa(k)
		}
		p.Writes = append(p.Writes, w)
	}
	return p
}

// slowNew is the error of a program: of all that apply the one that the chapter names first.
func slowNew(p coord.Prog) api.Errno {
	args, longs := max(0, len(p.Reads)-8)+max(0, len(p.Writes)-8), 0
	for _, key := range p.Reads {
		longs += max(0, len(key)-100)
	}
	keys := map[string]int{}
	for _, w := range p.Writes {
		if keys[w.Key]++; keys[w.Key] > 1 {
			args++
		}
		if w.Gone {
			args += len(w.Value)
		}
		longs += max(0, len(w.Key)-100) + max(0, len(w.Value)-500)
	}
	switch {
	case args > 0:
		return api.ErrArg
	case longs > 0:
		return api.ErrLong
	}
	return api.OK
}

// randomTime is a time about another one, or one of the ends.
func randomTime(r *rand.Rand, about uint64) uint64 {
	switch r.IntN(30) {
	case 0:
		return 0
	case 1:
		return greatest - uint64(r.IntN(2))
	}
	return about - min(about, 2) + uint64(r.IntN(5))
}

// randomCall makes a call at random, more often than not one that the run waits for.
func (b *both) randomCall(r *rand.Rand) {
	b.t.Helper()
	kind := r.IntN(5) + 1
	if r.IntN(3) > 0 {
		kind = b.slow.stage()
	}
	switch kind {
	case 1:
		time := randomTime(r, 50)
		b.fast.Start(time)
		b.slow.begin(time)
	case 2:
		b.randomTook(r)
	case 3:
		b.randomVote(r)
	case 4:
		time := randomTime(r, b.slow.start)
		b.fast.Commit(time)
		b.slow.commit(time)
	case 5:
		if r.IntN(4) == 0 {
			b.fast.Abort()
			b.slow.abort()
		}
	}
	b.checkAll()
}

// randomTook tells both what was read, of the key that is next or of another one.
func (b *both) randomTook(r *rand.Rand) {
	b.t.Helper()
	key, ok := b.slow.next()
	if !ok || r.IntN(4) == 0 {
		key = randomKey(r)
	}
	x := none(key)
	if r.IntN(2) == 0 {
		x = coord.Read{Key: key, Found: true, V: api.Version{Time: randomTime(r, 50), Gone: r.IntN(4) == 0, Value: strings.Repeat("v", r.IntN(4))}}
	}
	b.fast.Took(x)
	b.slow.take(x)
}

// randomVote tells both how a node votes, of those that are waited for or another one.
func (b *both) randomVote(r *rand.Rand) {
	b.t.Helper()
	node := r.IntN(8) - 2
	if l := b.slow.waits(); len(l) > 0 && r.IntN(4) > 0 {
		node = l[r.IntN(len(l))]
	}
	yes := r.IntN(8) > 0
	b.fast.Vote(node, yes)
	b.slow.vote(node, yes)
}

// randomBoth are two runs of a program at random; none, if there is an error, which is held.
func randomBoth(t *testing.T, r *rand.Rand) (*both, api.Errno) {
	t.Helper()
	p, n := randomProg(r), api.Txn{Node: r.IntN(5), Life: r.IntN(9), Seq: r.IntN(9)}
	o := owners()[r.IntN(len(owners()))]
	want := slowNew(p)
	if want == api.OK {
		return newBoth(t, n, p, o), want
	}
	refuse(t, p, want)
	return nil, want
}

// P14.1, P14.2, P14.3: many programs and calls at random, held against the slow run.
func TestAtRandom(t *testing.T) {
	r := rand.New(rand.NewPCG(14, 1))
	errors, stages := map[api.Errno]int{}, map[int]int{}
	for range 4000 {
		b, e := randomBoth(t, r)
		errors[e]++
		if e != api.OK {
			continue
		}
		for range 25 {
			stages[b.slow.stage()]++
			b.randomCall(r)
		}
	}
	for _, e := range []api.Errno{api.OK, api.ErrArg, api.ErrLong} {
		if errors[e] < 50 {
			t.Errorf("%v: too few of error %d", errors, e)
		}
	}
	for stage := 1; stage <= 6; stage++ {
		if stages[stage] < 1000 {
			t.Errorf("%v: too few at %d", stages, stage)
		}
	}
}

// R7: two runs do not hang on one another, be they of one number and one program.
func TestTwoRuns(t *testing.T) {
	p := kept()
	one, other, third := newBoth(t, txn(1), p, byFirst), newBoth(t, txn(1), p, byFirst), newBoth(t, txn(2), p, always(3))
	all := func() {
		one.checkAll()
		other.checkAll()
		third.checkAll()
	}
	one.start(5, 2)
	all()
	other.abort(6)
	all()
	third.start(9, 2)
	for i, key := range p.Reads {
		one.took(found(key, 3, "one"), one.stageBehind(i+1))
		all()
		third.took(none(key), third.stageBehind(i+1))
		all()
	}
	one.vote(1, true, 3)
	all()
	third.vote(3, true, 4)
	all()
	one.vote(0, true, 3).vote(2, false, 6)
	all()
	third.commit(10, 5)
	all()
}

// R7: so of many at random.
func TestManyRuns(t *testing.T) {
	r := rand.New(rand.NewPCG(14, 2))
	for range 30 {
		var l []*both
		for len(l) < 6 {
			if b, e := randomBoth(t, r); e == api.OK {
				l = append(l, b)
			}
		}
		for range 100 {
			l[r.IntN(len(l))].randomCall(r)
			for _, b := range l {
				b.checkAll()
			}
		}
	}
}

// R1: no call panics, whatever it is asked, also of a run that no New made: that is at no stage, and stays there.
func TestWhatever(t *testing.T) {
	long := strings.Repeat("k", 100000)
	of, _ := coord.New(txn(1), kept(), byFirst)
	for _, r := range []*coord.Run{of, {}} {
		for range 3 {
			for _, time := range []uint64{0, 1, greatest} {
				r.Commit(time)
				r.Start(time)
				r.Took(coord.Read{})
				r.Took(coord.Read{Key: long, V: api.Version{Time: time, Gone: true, Value: long}})
				for _, node := range []int{leastNode, -1, 0, mostNode} {
					r.Part(node)
					r.Vote(node, true)
				}
				r.Next()
				r.Waits()
			}
		}
		r.Abort()
	}
	none := &coord.Run{}
	none.Abort()
	none.Start(5)
	none.Vote(0, false)
	key, ok := none.Next()
	start, time := none.Times()
	if none.Stage() != 0 || none.Txn() != (api.Txn{}) || key != "" || ok || start != 0 || time != 0 || len(none.Waits())+len(none.Part(0))+len(none.Reads()) > 0 {
		t.Errorf("stage %d, %v, %q, times %d, %d", none.Stage(), none.Txn(), key, start, time)
	}
}
