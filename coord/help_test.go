package coord_test

import (
	"slices"
	"strconv"
	"strings"
	"testing"

	"isogloss/api"
	"isogloss/coord"
)

// greatest is the greatest time.
const greatest = 1<<64 - 1

// The least number, and the greatest, that a node may have.
const (
	leastNode = -1 << 63
	mostNode  = 1<<63 - 1
)

// put is a write of a value.
func put(key, value string) api.Write {
	return api.Write{Key: key, Value: value}
}

// drop is a write of what is gone.
func drop(key string) api.Write {
	return api.Write{Key: key, Gone: true}
}

// puts are writes of some keys, each with a value of its own.
func puts(keys ...string) []api.Write {
	var l []api.Write
	for i, key := range keys {
		l = append(l, put(key, "of "+key[:min(len(key), 5)]+strings.Repeat("!", i%10)))
	}
	return l
}

// manyKeys are n keys.
func manyKeys(n int) []string {
	var l []string
	for i := range n {
		l = append(l, "key"+strconv.Itoa(i))
	}
	return l
}

// manyPuts are writes of n keys.
func manyPuts(n int) []api.Write {
	return puts(manyKeys(n)...)
}

// txn is a transaction of the node 1, in its life 2.
func txn(seq int) api.Txn {
	return api.Txn{Node: 1, Life: 2, Seq: seq}
}

// found is that a key was read, and had a value.
func found(key string, time uint64, value string) coord.Read {
	return coord.Read{Key: key, Found: true, V: api.Version{Time: time, Value: value}}
}

// none is that a key was read, and had none.
func none(key string) coord.Read {
	return coord.Read{Key: key}
}

// owner is who owns a key.
type owner = func(key string) int

// always is an owner that answers one node of all keys.
func always(node int) owner {
	return func(string) int { return node }
}

// byFirst is an owner that hangs on a key's first byte: of a letter from a on it is its place in the alphabet.
func byFirst(key string) int {
	if key == "" {
		return 0
	}
	return int(key[0]) - 'a'
}

// farApart is an owner whose answers are below 0, or so far from each other that their difference goes around.
func farApart(key string) int {
	l := []int{leastNode, mostNode, -1, 0, 1, leastNode + 1, mostNode - 1, -1 << 62}
	return l[(byFirst(key)%len(l)+len(l))%len(l)]
}

// owners are some of each kind.
func owners() []owner {
	return []owner{always(0), always(-7), always(mostNode), byFirst, farApart, func(key string) int { return len(key) }}
}

// slow is a run of the tests' own: what it was told, of which each answer is reckoned anew.
type slow struct {
	txn         api.Txn
	p           coord.Prog
	owner       owner
	start, time uint64
	took        []coord.Read
	votes       map[int]int // 1 is yes, 2 is no
	gaveUp      bool
}

// newSlow is one that was told nothing.
func newSlow(t api.Txn, p coord.Prog, o owner) *slow {
	p.Reads, p.Writes = slices.Clone(p.Reads), slices.Clone(p.Writes)
	return &slow{txn: t, p: p, owner: o, votes: map[int]int{}}
}

// missing are the nodes that have a part and no vote, rising: each one stands behind those that are less.
func (s *slow) missing() []int {
	nodes := map[int]int{}
	for _, w := range s.p.Writes {
		if s.votes[s.owner(w.Key)] == 0 {
			nodes[s.owner(w.Key)]++
		}
	}
	l := make([]int, len(nodes))
	for node := range nodes {
		ahead := 0
		for other := range nodes {
			if other < node {
				ahead++
			}
		}
		l[ahead] = node
	}
	return l
}

// saidNo tells whether somebody voted so.
func (s *slow) saidNo() bool {
	for _, vote := range s.votes {
		if vote == 2 {
			return true
		}
	}
	return false
}

// stage is Stage.
func (s *slow) stage() int {
	switch {
	case s.gaveUp || s.saidNo():
		return 6
	case s.start == 0:
		return 1
	case len(s.took) < len(s.p.Reads):
		return 2
	case len(s.p.Writes) == 0:
		return 5
	case len(s.missing()) > 0:
		return 3
	case s.time == 0:
		return 4
	}
	return 5
}

// begin is Start.
func (s *slow) begin(time uint64) {
	if s.stage() == 1 {
		s.start = time
	}
}

// next is Next.
func (s *slow) next() (string, bool) {
	if s.stage() != 2 {
		return "", false
	}
	return s.p.Reads[len(s.took)], true
}

// take is Took.
func (s *slow) take(x coord.Read) {
	if key, ok := s.next(); ok && key == x.Key {
		s.took = append(s.took, x)
	}
}

// vote is Vote.
func (s *slow) vote(node int, yes bool) {
	if s.stage() != 3 || !slices.Contains(s.missing(), node) {
		return
	}
	s.votes[node] = 2
	if yes {
		s.votes[node] = 1
	}
}

// commit is Commit.
func (s *slow) commit(time uint64) {
	if s.stage() == 4 && time > s.start {
		s.time = time
	}
}

// abort is Abort.
func (s *slow) abort() {
	s.gaveUp = s.gaveUp || s.stage() != 5
}

// times are Times.
func (s *slow) times() (uint64, uint64) {
	if s.stage() == 5 && len(s.p.Writes) == 0 {
		return s.start, s.start
	}
	return s.start, s.time
}

// waits are Waits.
func (s *slow) waits() []int {
	if s.stage() != 3 {
		return nil
	}
	return s.missing()
}

// part is Part.
func (s *slow) part(node int) []api.Write {
	return slices.DeleteFunc(slices.Clone(s.p.Writes), func(w api.Write) bool { return s.owner(w.Key) != node })
}

// both is a run and a slow one, of which the same is asked.
type both struct {
	t    *testing.T
	fast *coord.Run
	slow *slow
}

// newBoth are two new ones of one program, at the stage 1.
func newBoth(t *testing.T, n api.Txn, p coord.Prog, o owner) *both {
	t.Helper()
	r, e := coord.New(n, p, o)
	if e != api.OK || r == nil {
		t.Fatalf("New(%s): error %d", brief(p), e)
	}
	b := &both{t, r, newSlow(n, p, o)}
	b.check(1)
	return b
}

// run are two new ones that have these reads, and writes, each at the node of its key's first letter.
func run(t *testing.T, reads []string, writes []api.Write) *both {
	t.Helper()
	return newBoth(t, txn(1), coord.Prog{Reads: reads, Writes: writes}, byFirst)
}

// start tells both their start, and holds the stage behind it.
func (b *both) start(time uint64, stage int) *both {
	b.t.Helper()
	b.fast.Start(time)
	b.slow.begin(time)
	return b.check(stage)
}

// took tells both what was read, and holds the stage behind it.
func (b *both) took(x coord.Read, stage int) *both {
	b.t.Helper()
	b.fast.Took(x)
	b.slow.take(x)
	return b.check(stage)
}

// vote tells both how a node votes, and holds the stage behind it.
func (b *both) vote(node int, yes bool, stage int) *both {
	b.t.Helper()
	b.fast.Vote(node, yes)
	b.slow.vote(node, yes)
	return b.check(stage)
}

// commit tells both their commit time, and holds the stage behind it.
func (b *both) commit(time uint64, stage int) *both {
	b.t.Helper()
	b.fast.Commit(time)
	b.slow.commit(time)
	return b.check(stage)
}

// abort ends both, and holds the stage behind it.
func (b *both) abort(stage int) *both {
	b.t.Helper()
	b.fast.Abort()
	b.slow.abort()
	return b.check(stage)
}

// check holds that the stage is this, and all else that is told.
func (b *both) check(stage int) *both {
	b.t.Helper()
	if got := b.fast.Stage(); got != stage {
		b.t.Errorf("the stage is %d, not %d", got, stage)
	}
	b.checkAll()
	return b
}

// checkAll holds all that is told, each asked twice.
func (b *both) checkAll() {
	b.t.Helper()
	for range 2 {
		if got, want := b.fast.Stage(), b.slow.stage(); got != want {
			b.t.Errorf("Stage: %d, not %d", got, want)
		}
		if got := b.fast.Txn(); got != b.slow.txn {
			b.t.Errorf("Txn: %v, not %v", got, b.slow.txn)
		}
		key, ok := b.fast.Next()
		if want, wantOk := b.slow.next(); key != want || ok != wantOk {
			b.t.Errorf("Next: %q, %t, not %q, %t", key, ok, want, wantOk)
		}
		start, time := b.fast.Times()
		if wantStart, want := b.slow.times(); start != wantStart || time != want {
			b.t.Errorf("Times: %d, %d, not %d, %d", start, time, wantStart, want)
		}
		if got, want := b.fast.Waits(), b.slow.waits(); !slices.Equal(got, want) {
			b.t.Errorf("Waits: %v, not %v", got, want)
		}
		if got := b.fast.Reads(); !slices.Equal(got, b.slow.took) {
			b.t.Errorf("Reads: %v, not %v", got, b.slow.took)
		}
		b.checkParts()
	}
}

// checkParts holds what Part answers of the nodes that have one, and of others.
func (b *both) checkParts() {
	b.t.Helper()
	nodes := []int{leastNode, -1, 0, 1, 2, 3, 4, 5, mostNode}
	for _, w := range b.slow.p.Writes {
		node := b.slow.owner(w.Key)
		nodes = append(nodes, node-1, node, node+1)
	}
	for _, node := range nodes {
		if got, want := b.fast.Part(node), b.slow.part(node); !slices.Equal(got, want) {
			b.t.Errorf("Part(%d): %v, not %v", node, got, want)
		}
	}
}

// stageBehind is the stage of a run that has its start, and so many of its reads.
func (b *both) stageBehind(reads int) int {
	switch {
	case reads < len(b.slow.p.Reads):
		return 2
	case len(b.slow.p.Writes) > 0:
		return 3
	}
	return 5
}

// at is a run at a stage. It reads a, b and a, and writes at the nodes 2, 0, 4, and 2 again; at the stage 2 a was read, at 3 the node 2 has voted; it began at 50, and has committed at 60, or was told no by the node 0.
func at(t *testing.T, stage int) *both {
	t.Helper()
	b := run(t, []string{"a", "b", "a"}, []api.Write{put("cat", "x"), put("axe", ""), drop("e"), put("cow", "y")})
	if stage > 1 {
		b.start(50, 2).took(found("a", 7, "v"), 2)
	}
	if stage > 2 {
		b.took(none("b"), 2).took(found("a", 7, "v"), 3).vote(2, true, 3)
	}
	if stage > 3 {
		b.vote(4, true, 3)
	}
	switch stage {
	case 4:
		b.vote(0, true, 4)
	case 5:
		b.vote(0, true, 4).commit(60, 5)
	case 6:
		b.vote(0, false, 6)
	}
	return b
}

// ends are runs that are over: of each way to come there.
func ends(t *testing.T) []*both {
	t.Helper()
	l := []*both{at(t, 5), at(t, 6)}
	for stage := 1; stage <= 4; stage++ {
		l = append(l, at(t, stage).abort(6))
	}
	l = append(l, run(t, nil, nil).start(50, 5), run(t, nil, nil).abort(6))
	l = append(l, run(t, []string{"a"}, nil).start(50, 2).took(none("a"), 5), run(t, []string{"a"}, nil).start(50, 2).abort(6))
	return l
}

// stay are calls of each kind, with arguments of each kind.
func stay(b *both) []func() {
	var l []func()
	for _, time := range []uint64{0, 1, 49, 50, 51, 59, 60, 61, greatest} {
		l = append(l, func() { b.fast.Start(time) }, func() { b.fast.Commit(time) })
	}
	for _, key := range []string{"", "a", "b", "c", "cat", "axe"} {
		l = append(l, func() { b.fast.Took(none(key)) }, func() { b.fast.Took(found(key, 3, "other")) })
	}
	for node := -2; node < 7; node++ {
		l = append(l, func() { b.fast.Vote(node, true) }, func() { b.fast.Vote(node, false) })
	}
	return append(l, b.fast.Abort)
}

// brief is as much of a program as a fault is told with.
func brief(p coord.Prog) string {
	var b strings.Builder
	for _, key := range p.Reads[:min(len(p.Reads), 10)] {
		b.WriteString(key[:min(len(key), 20)] + "? ")
	}
	for _, w := range p.Writes[:min(len(p.Writes), 10)] {
		b.WriteString(w.Key[:min(len(w.Key), 20)] + "=" + w.Value[:min(len(w.Value), 20)])
		if w.Gone {
			b.WriteString("(gone)")
		}
		b.WriteString(" ")
	}
	return b.String()
}
