package node

import (
	"math"

	"isogloss/api"
	"isogloss/msg"
	"isogloss/oracle"
)

// recordVersion is the version in which records are messages, whichever the node's is.
const recordVersion = 3

// The kinds of messages that are records.
const (
	lifeRecord      = 1
	limitRecord     = 2
	preparedRecord  = 5
	committedRecord = 6
	endedRecord     = 7
)

// record is what stands in a record.
type record interface {
	message() msg.Msg // the record is its bytes
}

// What stands in the records, a type of each kind's own.
type (
	// lifeBegan is that a life of the node began.
	lifeBegan struct {
		number uint64
	}
	// limitRose is that times up to a limit may be given.
	limitRose struct {
		limit uint64
	}
	// partPrepared is that a transaction was prepared here.
	partPrepared struct {
		txn    api.Txn
		start  uint64
		writes []api.Write
	}
	// runCommitted is that a run of this node has committed.
	runCommitted struct {
		txn    api.Txn
		time   uint64
		writes []api.Write
	}
	// partEnded is that one that was prepared was committed at a time, or, if that is 0, aborted.
	partEnded struct {
		txn  api.Txn
		time uint64
	}
)

func (r lifeBegan) message() msg.Msg {
	return msg.Msg{Kind: lifeRecord, A: r.number}
}

func (r limitRose) message() msg.Msg {
	return msg.Msg{Kind: limitRecord, A: r.limit}
}

func (r partPrepared) message() msg.Msg {
	return msg.Msg{Kind: preparedRecord, Txn: r.txn, A: r.start, Writes: r.writes}
}

func (r runCommitted) message() msg.Msg {
	return msg.Msg{Kind: committedRecord, Txn: r.txn, B: r.time, Writes: r.writes}
}

func (r partEnded) message() msg.Msg {
	return msg.Msg{Kind: endedRecord, Txn: r.txn, B: r.time}
}

// bytesOf is a record's bytes; an error, if it has none.
func bytesOf(r record) (string, api.Errno) {
	return msg.Encode(recordVersion, r.message())
}

// recordOf is what stands in these bytes; false, if they are no record's.
func recordOf(b string) (record, bool) {
	m, leftOut, e := msg.Decode(recordVersion, b)
	if e != api.OK || leftOut > 0 {
		return nil, false
	}
	switch m.Kind {
	case lifeRecord:
		// Of a greater number there were none that is one greater.
		return lifeBegan{m.A}, m.A < math.MaxInt
	case limitRecord:
		return limitRose{m.A}, true
	case preparedRecord:
		return partPrepared{m.Txn, m.A, m.Writes}, true
	case committedRecord:
		return runCommitted{m.Txn, m.B, m.Writes}, true
	case endedRecord:
		return partEnded{m.Txn, m.B}, true
	}
	return nil, false
}

// note makes a record sure, and does then what it says.
func (n *Node) note(r record) api.Errno {
	b, e := bytesOf(r)
	if e != api.OK {
		return e
	}
	if e := n.log.Append(b); e != api.OK {
		return e
	}
	if e := n.log.Sync(); e != api.OK {
		return e
	}
	n.do(r)
	return api.OK
}

// do does what a record says, be it one that was just made or one of a life ahead.
func (n *Node) do(r record) {
	if x, ok := r.(lifeBegan); ok {
		n.life = max(n.life, int(x.number))
		// What was left below the limit may have been given by the life ahead.
		n.oracle = oracle.New(n.limit)
	}
	if x, ok := r.(limitRose); ok {
		n.limit = max(n.limit, x.limit)
		n.oracle.Noted(x.limit)
	}
	if x, ok := r.(partPrepared); ok {
		n.hold(x)
	}
	if x, ok := r.(runCommitted); ok {
		n.remember(x)
	}
	if x, ok := r.(partEnded); ok {
		n.release(x)
	}
}

// hold prepares a transaction.
func (n *Node) hold(x partPrepared) {
	was := n.member().Prepared(x.txn)
	if e := n.member().Prepare(x.txn, x.start, x.writes); e == api.OK && !was {
		n.starts[x.txn] = x.start
	}
}

// release commits one that is prepared, or aborts it.
func (n *Node) release(x partEnded) {
	if x.time == 0 {
		n.member().Abort(x.txn)
	} else {
		n.member().Commit(x.txn, x.time)
	}
	if !n.member().Prepared(x.txn) {
		delete(n.starts, x.txn)
	}
}

// remember keeps how a run has ended: others may ask for it in later lives, too.
func (n *Node) remember(x runCommitted) {
	n.committed[x.txn] = ending{time: x.time, parts: n.parts(x.writes)}
}
