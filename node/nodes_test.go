package node_test

import (
	"math/rand/v2"
	"slices"
	"testing"

	"isogloss/api"
	"isogloss/coord"
	"isogloss/crc"
	"isogloss/disk"
	"isogloss/msg"
	"isogloss/node"
)

// some are nodes, and the messages that are on their way between them.
type some struct {
	t     *testing.T
	disks []*disk.Disk
	nodes []*node.Node
	way   []msg.Msg
	begun []begun
}

// begun is a program that was begun, with its outcome as it was told last.
type begun struct {
	txn api.Txn
	p   coord.Prog
	o   node.Outcome
}

// newSome are n new nodes, each of a version of its own.
func newSome(t *testing.T, n int) *some {
	s := &some{t: t, nodes: make([]*node.Node, n)}
	for i := range n {
		s.disks = append(s.disks, disk.New(600))
		s.up(i)
	}
	return s
}

// up opens a node, again or for the first time.
func (s *some) up(i int) {
	s.t.Helper()
	s.disks[i].Crash(nil)
	n, e := node.Open(crc.Make(), s.disks[i], i, len(s.nodes), 1+i%3)
	if e != api.OK {
		s.t.Fatalf("the node %d: error %d", i, e)
	}
	s.nodes[i] = n
}

// begin begins a program at a node.
func (s *some) begin(i int, p coord.Prog) api.Txn {
	s.t.Helper()
	one, e := s.nodes[i].Begin(p)
	if e != api.OK {
		s.t.Fatalf("Begin: error %d", e)
	}
	s.begun = append(s.begun, begun{txn: one, p: p})
	return one
}

// collect takes what all nodes send, and what is known of each program.
func (s *some) collect() {
	for _, n := range s.nodes {
		s.way = append(s.way, n.Send()...)
	}
	for i, b := range s.begun {
		if o, ok := s.nodes[b.txn.Node].Outcome(b.txn); ok {
			s.begun[i].o = o
		}
	}
}

// deliver hands the i-th message over, and once more behind all others, if it comes twice.
func (s *some) deliver(i int, twice bool) {
	m := s.way[i]
	if !twice {
		s.way = slices.Delete(s.way, i, i+1)
	}
	s.nodes[m.To].Handle(m)
	s.collect()
}

// quiet ticks and delivers till nothing is on its way, some rounds long.
func (s *some) quiet() {
	s.t.Helper()
	for range 25 {
		for _, n := range s.nodes {
			n.Tick()
		}
		s.collect()
		for range 4000 {
			if len(s.way) > 0 {
				s.deliver(0, false)
			}
		}
	}
	for i, n := range s.nodes {
		if n.Running() > 0 || n.Locked() > 0 || len(s.way) > 0 {
			s.t.Errorf("at the node %d: %d run, %d are prepared, and %d messages are on their way", i, n.Running(), n.Locked(), len(s.way))
		}
	}
}

// checkStores holds that what has committed is in the stores of the nodes that own its keys, and nothing else is in any.
func (s *some) checkStores() (committed int) {
	s.t.Helper()
	versions := 0
	for _, b := range s.begun {
		if b.o.Stage != 5 || len(b.p.Writes) == 0 {
			continue
		}
		committed++
		for _, w := range b.p.Writes {
			versions++
			store := s.nodes[slowOwner(w.Key, len(s.nodes))].Store()
			if v, ok := store.At(w.Key, b.o.Commit); !ok || v != (api.Version{Time: b.o.Commit, Gone: w.Gone, Value: w.Value}) {
				s.t.Errorf("%v: %q has %v at %d", b.txn, w.Key, v, b.o.Commit)
			}
		}
	}
	for i, n := range s.nodes {
		for _, key := range n.Store().Keys() {
			if slowOwner(key, len(s.nodes)) != i {
				s.t.Errorf("the node %d has %q", i, key)
			}
			for time := n.Store().Last(key); time > 0; versions-- {
				v, _ := n.Store().At(key, time-1)
				time = v.Time
			}
		}
	}
	if versions != 0 {
		s.t.Errorf("%d versions more were committed than there are", versions)
	}
	return committed
}

// checkReads holds that what each has read is what stands at its start, by what has committed.
func (s *some) checkReads() {
	s.t.Helper()
	for _, b := range s.begun {
		for _, x := range b.o.Reads {
			v, ok := s.nodes[slowOwner(x.Key, len(s.nodes))].Store().At(x.Key, b.o.Start)
			if found := ok && !v.Gone; x.Found != found || found && x.V != v {
				s.t.Errorf("%v read %v, where %v stands", b.txn, x, v)
			}
		}
	}
}

// P15.1 to P15.4: one to five nodes whose messages are handed over in order: programs, one behind the other, commit, wherever their keys are.
func TestNodesInOrder(t *testing.T) {
	for n := 1; n <= 5; n++ {
		s := newSome(t, n)
		all := keysOf(n, slices.Repeat([]int{0, n - 1, n / 2}, 2)...)
		for i := range n {
			for _, p := range []coord.Prog{program(all, puts(all...)...), program(nil, drop(all[0]), put(all[1], "v")), program(all[:3]), program(nil), program(nil, put(all[2], ""))} {
				s.begin(i, p)
				s.collect()
				for len(s.way) > 0 {
					s.deliver(0, false)
				}
				if o := s.begun[len(s.begun)-1].o; o.Stage != 5 || len(o.Reads) != len(p.Reads) {
					t.Errorf("of %d nodes: %v", n, o)
				}
				s.checkReads()
			}
		}
		s.checkStores()
		s.quiet()
		for i := range n {
			s.up(i)
		}
		s.checkStores()
		s.quiet()
	}
}

// P15.1 to P15.4: one to five nodes whose messages come late, twice or not at all, and which go down and come up: what has committed is in the stores, what was aborted isn't, each has read what stood at its start, and in the end all is over.
func TestNodesAtRandom(t *testing.T) {
	r := rand.New(rand.NewPCG(15, 5))
	committed, others := 0, 0
	for round := range 300 {
		s := newSome(t, 1+round%5)
		for range 120 {
			switch k := r.IntN(40); {
			case k < 4:
				s.begin(r.IntN(len(s.nodes)), randomProgram(r))
			case k < 7:
				s.nodes[r.IntN(len(s.nodes))].Tick()
			case k == 7 && round%2 == 0:
				s.up(r.IntN(len(s.nodes)))
			case len(s.way) > 0 && k == 8:
				i := r.IntN(len(s.way))
				s.way = slices.Delete(s.way, i, i+1)
			case len(s.way) > 0:
				i := 0
				if k < 20 {
					i = r.IntN(len(s.way))
				}
				s.deliver(i, r.IntN(6) == 0)
			}
			s.collect()
		}
		s.quiet()
		n := s.checkStores()
		s.checkReads()
		committed += n
		others += len(s.begun) - n
	}
	if committed < 500 || others < 500 {
		t.Errorf("only %d committed, and %d didn't", committed, others)
	}
}

// P15.2: of two that write one key, and began ahead of each other's commit, one commits: here and at two nodes.
func TestNodesOfOneKey(t *testing.T) {
	for n := 1; n <= 3; n++ {
		s := newSome(t, n)
		l := puts(keysOf(n, 0, n-1)...)
		one, two := s.begin(0, program(nil, l...)), s.begin(n-1, program(nil, l...))
		s.quiet()
		first, second := s.begun[0].o, s.begun[1].o
		if first.Stage+second.Stage != 11 {
			t.Errorf("%v: %d, %v: %d", one, first.Stage, two, second.Stage)
		}
		if s.checkStores() != 1 {
			t.Error("not one committed")
		}
	}
}

// P15.2, P15.4: who runs goes down ahead of its record: the others ask when it is up again, hear that it isn't run, and abort; behind its record it tells them the time.
func TestNodesGoDown(t *testing.T) {
	for votes := 1; votes <= 2; votes++ {
		s := newSome(t, 3)
		keys := keysOf(3, 0, 1)
		one := s.begin(2, program(nil, puts(keys...)...))
		s.collect()
		for range 2 {
			s.deliver(0, false) // the time is asked for, and told
		}
		for range 2 {
			s.deliver(0, false) // both prepare
		}
		for range votes {
			s.deliver(0, false)
		}
		if votes == 2 {
			for range 2 {
				s.deliver(0, false) // the commit's time is asked for, and told
			}
		}
		s.way = nil
		s.up(2)
		if s.nodes[0].Locked() != 1 || s.nodes[1].Locked() != 1 {
			t.Fatal("it isn't prepared")
		}
		s.nodes[1].Tick()
		s.collect()
		want := uint64(0)
		if votes == 2 {
			want = 2
		}
		if len(s.way) != 1 || !same(s.way[0], endAsked(1, 2, one)) {
			t.Fatalf("%s", briefs(s.way))
		}
		s.deliver(0, false)
		if len(s.way) != 1 || !same(s.way[0], endTold(2, 1, one, want)) {
			t.Fatalf("%s", briefs(s.way))
		}
		s.deliver(0, false)
		if s.nodes[1].Locked() != 0 || s.nodes[1].Store().Last(keys[1]) != want {
			t.Errorf("it has %d", s.nodes[1].Store().Last(keys[1]))
		}
		s.quiet()
		if s.nodes[0].Store().Last(keys[0]) != want {
			t.Errorf("it has %d", s.nodes[0].Store().Last(keys[0]))
		}
	}
}
