package node

import (
	"slices"
	"strings"

	"isogloss/api"
	"isogloss/coord"
	"isogloss/msg"
)

// The kinds of messages.
const (
	askTime  = 1 + iota // which time is it?
	tellTime            // it is that
	askKey              // what has a key at a time?
	tellKey             // that
	askVote             // may these writes be made?
	tellVote            // yes or no
	tellEnd             // it has committed, or aborted
	tellDone            // that is done
	askEnd              // what became of it?
)

// What a time is asked for.
const (
	forStart  = 1
	forCommit = 2
)

// What a B says that is no time.
const (
	busy = 1 // of a key
	yes  = 1 // of a vote
)

// tellTime answers with a time, if this node has the oracle.
func (n *Node) tellTime(m msg.Msg) {
	if n.id != 0 {
		return
	}
	// The limit is sure ahead of any time up to it: else a later life could give that once more.
	if limit, ok := n.oracle.Want(); ok && n.note(limitRose{limit: limit}) != api.OK {
		return
	}
	if time, ok := n.oracle.Next(); ok {
		n.send(msg.Msg{Kind: tellTime, To: m.From, Txn: m.Txn, A: m.A, B: time})
	}
}

// takeTime tells a run the time that it waits for.
func (n *Node) takeTime(m msg.Msg) {
	r, ok := n.find(m.Txn)
	if !ok {
		return
	}
	switch {
	case m.A == forStart && r.Stage() == starting:
		r.Start(m.B)
		if r.Stage() != starting {
			n.ask(r)
		}
	case m.A == forCommit && r.Stage() == timing:
		n.commit(r, m.B)
	}
}

// commit commits a run at a time, once that is sure.
func (n *Node) commit(r *run, time uint64) {
	if start, _ := r.Times(); time <= start {
		return
	}
	if n.note(runCommitted{txn: r.Txn(), time: time, writes: r.writes}) != api.OK {
		n.abort(r)
		return
	}
	r.Commit(time)
	n.tellAll(n.parts(r.writes), r.Txn(), time)
}

// abort ends a run, and tells all who have a part.
func (n *Node) abort(r *run) {
	r.Abort()
	n.tellAll(n.parts(r.writes), r.Txn(), 0)
}

// tellKey answers with what a key has at a time.
func (n *Node) tellKey(m msg.Msg) {
	a := msg.Msg{Kind: tellKey, To: m.From, Txn: m.Txn, Key: strings.Clone(m.Key), A: m.A}
	v, e := n.member().Read(m.Key, m.A)
	switch {
	case e == api.ErrBusy:
		a.B = busy
	case e == api.OK && !v.Gone:
		a.Found, a.V = true, v
	}
	n.send(a)
}

// takeKey tells a run what it has read, if that is what it reads next; it reads on.
func (n *Node) takeKey(m msg.Msg) {
	r, ok := n.find(m.Txn)
	if !ok || m.B == busy {
		return
	}
	if key, ok := r.Next(); ok && key == m.Key {
		r.Took(coord.Read{Key: m.Key, Found: m.Found, V: m.V})
		n.ask(r)
	}
}

// tellVote prepares a transaction, if that may be, and answers whether it is prepared.
func (n *Node) tellVote(m msg.Msg) {
	a := msg.Msg{Kind: tellVote, To: m.From, Txn: m.Txn}
	if n.prepare(m) {
		a.B = yes
	}
	n.send(a)
}

// prepare tells whether a transaction is prepared; it is made so, if it wasn't, and may be.
func (n *Node) prepare(m msg.Msg) bool {
	if n.member().Prepared(m.Txn) {
		return true
	}
	foreign := func(w api.Write) bool { return Owner(w.Key, n.nodes) != n.id }
	if n.member().May(m.Txn, m.A, m.Writes) != api.OK || slices.ContainsFunc(m.Writes, foreign) {
		return false
	}
	return n.note(partPrepared{txn: m.Txn, start: m.A, writes: m.Writes}) == api.OK
}

// takeVote tells a run how a node has voted.
func (n *Node) takeVote(m msg.Msg) {
	r, ok := n.find(m.Txn)
	if !ok || r.Stage() != voting {
		return
	}
	r.Vote(m.From, m.B == yes)
	switch r.Stage() {
	case timing:
		n.ask(r)
	case aborted:
		n.tellAll(n.parts(r.writes), r.Txn(), 0)
	}
}

// takeEnd commits what is prepared, or aborts it, and answers that it is done; also where it was done already.
func (n *Node) takeEnd(m msg.Msg) {
	if n.member().Prepared(m.Txn) {
		early := m.B != 0 && m.B <= n.starts[m.Txn]
		if early || n.note(partEnded{txn: m.Txn, time: m.B}) != api.OK {
			return
		}
	}
	n.send(msg.Msg{Kind: tellDone, To: m.From, Txn: m.Txn})
}

// takeDone notes that a node needn't be told any more.
func (n *Node) takeDone(m msg.Msg) {
	if m.Txn.Node == n.id {
		n.done[saying{m.Txn, m.From}] = struct{}{}
	}
}

// tellEnd answers what became of a transaction of this node, if that is known.
func (n *Node) tellEnd(m msg.Msg) {
	if m.Txn.Node != n.id {
		return
	}
	var time uint64
	if end, ok := n.committed[m.Txn]; ok {
		time = end.time
	} else if r, ok := n.find(m.Txn); ok {
		if r.Stage() < committed {
			return
		}
		_, time = r.Times()
	}
	n.tellAll([]int{m.From}, m.Txn, time)
}
