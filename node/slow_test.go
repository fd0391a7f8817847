package node_test

import (
	"maps"
	"slices"

	"isogloss/api"
	"isogloss/coord"
	"isogloss/msg"
	"isogloss/node"
)

// slow is a node of the tests' own: its records, of which what is prepared, and what the store has, is reckoned anew at each question; and what this life was told.
type slow struct {
	id, nodes, version int
	room               int // the disk's bytes
	fuse               int // below 0 there is none
	over               bool
	records            []msg.Msg
	given              int // how many times were given
	runs               []*slowRun
	done               []msg.Msg // of the kind 8
	out                []msg.Msg
}

// slowRun is a run: its program, and what it was told.
type slowRun struct {
	txn         api.Txn
	p           coord.Prog
	start, time uint64
	took        []coord.Read
	votes       map[int]uint64 // 1 is yes
	gaveUp      bool
}

// slowWork is what one that is prepared has.
type slowWork struct {
	txn    api.Txn
	start  uint64
	writes []api.Write
}

// owners are the nodes that have a part in some writes, rising.
func (s *slow) owners(l []api.Write) []int {
	var all []int
	for node := range s.nodes {
		if len(s.partOf(node, l)) > 0 {
			all = append(all, node)
		}
	}
	return all
}

// partOf are the writes that are at a node.
func (s *slow) partOf(node int, l []api.Write) []api.Write {
	var all []api.Write
	for _, w := range l {
		if slowOwner(w.Key, s.nodes) == node {
			all = append(all, w)
		}
	}
	return all
}

// missing are the nodes that haven't voted.
func (s *slow) missing(r *slowRun) []int {
	var all []int
	for _, node := range s.owners(r.p.Writes) {
		if _, ok := r.votes[node]; !ok {
			all = append(all, node)
		}
	}
	return all
}

// stage is a run's stage.
func (s *slow) stage(r *slowRun) int {
	for _, vote := range r.votes {
		if vote != 1 {
			return 6
		}
	}
	switch {
	case r.gaveUp:
		return 6
	case r.start == 0:
		return 1
	case len(r.took) < len(r.p.Reads):
		return 2
	case len(r.p.Writes) == 0:
		return 5
	case len(s.missing(r)) > 0:
		return 3
	case r.time == 0:
		return 4
	}
	return 5
}

// life is the greatest one that stands.
func (s *slow) life() int {
	life := 0
	for _, m := range s.records {
		if m.Kind == 1 && int(m.A) > life {
			life = int(m.A)
		}
	}
	return life
}

// works are what is prepared, and the versions of all keys, as the records say.
func (s *slow) works() ([]slowWork, map[string][]api.Version) {
	var works []slowWork
	chains := map[string][]api.Version{}
	for _, m := range s.records {
		i := slices.IndexFunc(works, func(w slowWork) bool { return w.txn == m.Txn })
		switch {
		case m.Kind == 5 && i < 0 && slowMay(works, chains, m):
			works = append(works, slowWork{m.Txn, m.A, m.Writes})
		case m.Kind == 7 && i >= 0 && (m.B == 0 || m.B > works[i].start):
			for _, w := range works[i].writes {
				if m.B > 0 {
					chains[w.Key] = append(chains[w.Key], api.Version{Time: m.B, Gone: w.Gone, Value: w.Value})
				}
			}
			works = slices.Delete(works, i, i+1)
		}
	}
	return works, chains
}

// slowMay tells whether one that isn't prepared may be.
func slowMay(works []slowWork, chains map[string][]api.Version, m msg.Msg) bool {
	keys := map[string]int{}
	for _, w := range m.Writes {
		keys[w.Key]++
		if w.Gone && w.Value != "" || len(w.Key) > 100 || len(w.Value) > 500 || len(chains[w.Key]) >= 200 {
			return false
		}
		for _, v := range chains[w.Key] {
			if v.Time > m.A {
				return false
			}
		}
		if slowLocked(works, w.Key) {
			return false
		}
	}
	return len(m.Writes) > 0 && len(m.Writes) <= 8 && len(keys) == len(m.Writes)
}

// slowLocked tells whether one that is prepared writes a key.
func slowLocked(works []slowWork, key string) bool {
	for _, one := range works {
		for _, w := range one.writes {
			if w.Key == key {
				return true
			}
		}
	}
	return false
}

// ended is the last record 6 of a transaction.
func (s *slow) ended(t api.Txn) (msg.Msg, bool) {
	var last msg.Msg
	for _, m := range s.records {
		if m.Kind == 6 && m.Txn == t {
			last = m
		}
	}
	return last, last.Kind == 6
}

// free is how many bytes of the disk are free.
func (s *slow) free() int {
	free := s.room
	for _, m := range s.records {
		b, _ := msg.Encode(3, m)
		free -= 6 + len(b)
	}
	return free
}

// sure makes a record sure, if it can.
func (s *slow) sure(m msg.Msg) bool {
	b, e := msg.Encode(3, m)
	if e != api.OK || 6+len(b) > s.free() {
		return false
	}
	if s.fuse >= 0 {
		end := s.room - s.free()
		s.fuse -= (end+6+len(b)-1)/64 - end/64 + 1
		if s.fuse <= 0 { // the sync behind the last write needs power too
			s.fuse, s.over = 0, true
			return false
		}
	}
	s.records = append(s.records, m)
	return true
}

// limits are the greatest one that was noted ahead of this life, and the greatest one.
func (s *slow) limits() (uint64, uint64) {
	var ahead, all uint64
	for _, m := range s.records {
		switch m.Kind {
		case 1:
			ahead = all
		case 2:
			all = max(all, m.A)
		}
	}
	return ahead, all
}

// time is the oracle's next one; 0, if it has none.
func (s *slow) time() uint64 {
	ahead, all := s.limits()
	if ahead+uint64(s.given) == all {
		limit := all + min(100, greatest-all)
		if limit == all || !s.sure(limitRose(limit)) {
			return 0
		}
	}
	s.given++
	return ahead + uint64(s.given)
}

// send sends a message.
func (s *slow) send(m msg.Msg) {
	m.From = s.id
	s.out = append(s.out, m)
}

// ask sends what a run asks for at its stage.
func (s *slow) ask(r *slowRun) {
	switch s.stage(r) {
	case 1:
		s.send(timeAsked(s.id, r.txn, 1))
	case 2:
		key := r.p.Reads[len(r.took)]
		s.send(keyAsked(s.id, slowOwner(key, s.nodes), r.txn, r.start, key))
	case 3:
		for _, node := range s.missing(r) {
			s.send(voteAsked(s.id, node, r.txn, r.start, s.partOf(node, r.p.Writes)...))
		}
	case 4:
		s.send(timeAsked(s.id, r.txn, 2))
	}
}

// tell sends the message 7 to all who have a part.
func (s *slow) tell(r *slowRun, time uint64) {
	for _, node := range s.owners(r.p.Writes) {
		s.send(endTold(s.id, node, r.txn, time))
	}
}

// run is a run of this life, or nil.
func (s *slow) run(t api.Txn) *slowRun {
	for _, r := range s.runs {
		if r.txn == t {
			return r
		}
	}
	return nil
}

// begin is Begin, of a program that may be begun.
func (s *slow) begin(p coord.Prog) api.Txn {
	r := &slowRun{txn: txn(s.id, s.life(), len(s.runs)+1), votes: map[int]uint64{}}
	r.p.Reads, r.p.Writes = slices.Clone(p.Reads), slices.Clone(p.Writes)
	s.runs = append(s.runs, r)
	s.ask(r)
	return r.txn
}

// handle is Handle.
func (s *slow) handle(m msg.Msg) {
	if m.To != s.id || s.over {
		return
	}
	switch m.Kind {
	case 1, 3, 5, 7, 9:
		s.answer(m)
	case 8:
		s.done = append(s.done, m)
	case 2, 4, 6:
		if r := s.run(m.Txn); r != nil {
			s.hear(r, m)
		}
	}
}

// hear is what a run does with a message.
func (s *slow) hear(r *slowRun, m msg.Msg) {
	stage := s.stage(r)
	switch {
	case m.Kind == 2 && m.A == 1 && stage == 1 && m.B > 0:
		r.start = m.B
		s.ask(r)
	case m.Kind == 2 && m.A == 2 && stage == 4 && m.B > r.start:
		if s.sure(runCommitted(r.txn, m.B, r.p.Writes...)) {
			r.time = m.B
		} else {
			r.gaveUp = true
		}
		s.tell(r, r.time)
	case m.Kind == 4 && m.B != 1 && stage == 2 && m.Key == r.p.Reads[len(r.took)]:
		r.took = append(r.took, coord.Read{Key: m.Key, Found: m.Found, V: m.V})
		s.ask(r)
	case m.Kind == 6 && stage == 3 && slices.Contains(s.missing(r), m.From):
		r.votes[m.From] = m.B
		switch s.stage(r) {
		case 4:
			s.ask(r)
		case 6:
			s.tell(r, 0)
		}
	}
}

// answer is what is answered to a message.
func (s *slow) answer(m msg.Msg) {
	works, chains := s.works()
	i := slices.IndexFunc(works, func(w slowWork) bool { return w.txn == m.Txn })
	switch m.Kind {
	case 1:
		if s.id == 0 {
			if time := s.time(); time > 0 {
				s.send(timeTold(m.From, m.Txn, m.A, time))
			}
		}
	case 3:
		s.send(s.answerKey(works, chains, m))
	case 5:
		yes := i >= 0 || slowMay(works, chains, m) && len(s.partOf(s.id, m.Writes)) == len(m.Writes) && s.sure(partPrepared(m.Txn, m.A, m.Writes...))
		a := voteTold(s.id, m.From, m.Txn, 0)
		if yes {
			a.B = 1
		}
		s.send(a)
	case 7:
		if i < 0 || (m.B == 0 || m.B > works[i].start) && s.sure(partEnded(m.Txn, m.B)) {
			s.send(doneTold(s.id, m.From, m.Txn))
		}
	case 9:
		s.answerEnd(m)
	}
}

// answerKey is the message 4.
func (s *slow) answerKey(works []slowWork, chains map[string][]api.Version, m msg.Msg) msg.Msg {
	if slowLocked(works, m.Key) {
		return keyBusy(s.id, m.From, m.Txn, m.A, m.Key)
	}
	var last api.Version
	for _, v := range chains[m.Key] {
		if v.Time <= m.A {
			last = v
		}
	}
	if last.Time == 0 || last.Gone {
		return keyNone(s.id, m.From, m.Txn, m.A, m.Key)
	}
	return keyTold(s.id, m.From, m.Txn, m.A, m.Key, last.Time, last.Value)
}

// answerEnd answers the message 9.
func (s *slow) answerEnd(m msg.Msg) {
	if m.Txn.Node != s.id {
		return
	}
	r := s.run(m.Txn)
	time := uint64(0)
	switch one, ok := s.ended(m.Txn); {
	case ok:
		time = one.B
	case r != nil && s.stage(r) < 5:
		return
	case r != nil && s.stage(r) == 5:
		time = r.start
	}
	s.send(endTold(s.id, m.From, m.Txn, time))
}

// tick is Tick.
func (s *slow) tick() {
	for _, r := range s.runs {
		s.ask(r)
	}
	ended := map[api.Txn]int{}
	for _, m := range s.records {
		if m.Kind == 6 {
			ended[m.Txn]++
		}
	}
	for _, t := range slices.SortedFunc(maps.Keys(ended), inOrder) {
		m, _ := s.ended(t)
		for _, node := range s.owners(m.Writes) {
			if !slices.ContainsFunc(s.done, func(said msg.Msg) bool { return said.Txn == t && said.From == node }) {
				s.send(endTold(s.id, node, t, m.B))
			}
		}
	}
	works, _ := s.works()
	slices.SortFunc(works, func(a, b slowWork) int { return inOrder(a.txn, b.txn) })
	for _, w := range works {
		s.send(endAsked(s.id, w.txn.Node, w.txn))
	}
}

// inOrder is the order of transactions.
func inOrder(a, b api.Txn) int {
	return slices.Compare([]int{a.Node, a.Life, a.Seq}, []int{b.Node, b.Life, b.Seq})
}

// outcome is Outcome.
func (s *slow) outcome(t api.Txn) (node.Outcome, bool) {
	r := s.run(t)
	if r == nil {
		return node.Outcome{}, false
	}
	o := node.Outcome{Stage: s.stage(r), Start: r.start, Commit: r.time, Reads: r.took, Writes: r.p.Writes}
	if o.Stage == 5 && len(r.p.Writes) == 0 {
		o.Commit = r.start
	}
	return o, true
}

// running is Running.
func (s *slow) running() int {
	n := 0
	for _, r := range s.runs {
		if s.stage(r) < 5 {
			n++
		}
	}
	return n
}
