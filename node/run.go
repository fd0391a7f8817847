package node

import (
	"slices"
	"strings"

	"isogloss/api"
	"isogloss/coord"
	"isogloss/msg"
)

// The stages of a run: see layer 14.
const (
	starting  = 1
	reading   = 2
	voting    = 3
	timing    = 4
	committed = 5 // from here on it is over
	aborted   = 6
)

// run is a run of a program, with what layer 14 doesn't tell of it.
type run struct {
	*coord.Run
	writes []api.Write
}

// ending is what is told of a run that has committed.
type ending struct {
	time  uint64
	parts []int // the nodes that have a part, rising
}

// saying is that a node has said that a transaction is done.
type saying struct {
	txn  api.Txn
	node int
}

// find is a run of this life.
func (n *Node) find(t api.Txn) (*run, bool) {
	if t.Node != n.id || t.Life != n.life || t.Seq < 1 || t.Seq > len(n.runs) {
		return nil, false
	}
	return n.runs[t.Seq-1], true
}

// parts are the nodes that some writes are at, rising, each one once.
func (n *Node) parts(l []api.Write) []int {
	var all []int
	for _, w := range l {
		all = append(all, Owner(w.Key, n.nodes))
	}
	slices.Sort(all)
	return slices.Compact(all)
}

// left are the nodes that have a part in what has committed, and haven't said in this life that it is done.
func (n *Node) left(t api.Txn) []int {
	var all []int
	for _, node := range n.committed[t].parts {
		if _, done := n.done[saying{t, node}]; !done {
			all = append(all, node)
		}
	}
	return all
}

// send lays a message of this node's by, till it is asked for.
func (n *Node) send(m msg.Msg) {
	m.From = n.id
	n.out = append(n.out, m)
}

// ask asks for what a run waits for.
func (n *Node) ask(r *run) {
	start, _ := r.Times()
	switch r.Stage() {
	case starting:
		n.send(msg.Msg{Kind: askTime, Txn: r.Txn(), A: forStart})
	case reading:
		key, _ := r.Next()
		n.send(msg.Msg{Kind: askKey, To: Owner(key, n.nodes), Txn: r.Txn(), A: start, Key: key})
	case voting:
		for _, node := range r.Waits() {
			n.send(msg.Msg{Kind: askVote, To: node, Txn: r.Txn(), A: start, Writes: r.Part(node)})
		}
	case timing:
		n.send(msg.Msg{Kind: askTime, Txn: r.Txn(), A: forCommit})
	}
}

// tellAll tells some nodes that a transaction has committed at a time, or, if that is 0, that it has aborted.
func (n *Node) tellAll(nodes []int, t api.Txn, time uint64) {
	for _, node := range nodes {
		n.send(msg.Msg{Kind: tellEnd, To: node, Txn: t, B: time})
	}
}

// cloned is the same writes, in memory of their own: what was handed in isn't kept, nor what is kept handed out.
func cloned(l []api.Write) []api.Write {
	own := make([]api.Write, len(l))
	for i, w := range l {
		own[i] = api.Write{Key: strings.Clone(w.Key), Gone: w.Gone, Value: strings.Clone(w.Value)}
	}
	return own
}
