package node_test

import (
	"math/big"
	"reflect"
	"slices"
	"strconv"
	"strings"
	"testing"

	"isogloss/api"
	"isogloss/coord"
	"isogloss/crc"
	"isogloss/disk"
	"isogloss/log"
	"isogloss/msg"
	"isogloss/node"
)

// greatest is the greatest time.
const greatest = 1<<64 - 1

// The least int, and the greatest.
const (
	leastInt = -1 << 63
	mostInt  = 1<<63 - 1
)

// put is a write of a value.
func put(key, value string) api.Write {
	return api.Write{Key: key, Value: value}
}

// drop is a write of what is gone.
func drop(key string) api.Write {
	return api.Write{Key: key, Gone: true}
}

// puts are writes of some keys, each with a value of its own.
func puts(keys ...string) []api.Write {
	var l []api.Write
	for i, key := range keys {
		l = append(l, put(key, "of "+short(key)+strings.Repeat("!", i)))
	}
	return l
}

// program reads some keys, and writes.
func program(reads []string, writes ...api.Write) coord.Prog {
	return coord.Prog{Reads: reads, Writes: writes}
}

// slowOwner is Owner, in numbers that don't go around.
func slowOwner(key string, nodes int) int {
	if len(key) == 0 {
		return 0
	}
	product := new(big.Int).Mul(big.NewInt(int64(key[0])), big.NewInt(int64(nodes)))
	return int(new(big.Int).Div(product, big.NewInt(256)).Int64())
}

// keyOf is a key at a node.
func keyOf(at, nodes int, name string) string {
	for first := range 256 {
		key := string([]byte{byte(first)}) + name
		if slowOwner(key, nodes) == at {
			return key
		}
	}
	panic("there is no such node")
}

// keysOf are keys, the i-th one at the i-th of some nodes.
func keysOf(nodes int, at ...int) []string {
	var l []string
	for i, node := range at {
		l = append(l, keyOf(node, nodes, "key"+strconv.Itoa(i)))
	}
	return l
}

// txn is a transaction.
func txn(node, life, seq int) api.Txn {
	return api.Txn{Node: node, Life: life, Seq: seq}
}

// timeAsked is the message 1; it is to the node 0.
func timeAsked(from int, t api.Txn, a uint64) msg.Msg {
	return msg.Msg{Kind: 1, From: from, Txn: t, A: a}
}

// timeTold is the message 2; it is from the node 0.
func timeTold(to int, t api.Txn, a, b uint64) msg.Msg {
	return msg.Msg{Kind: 2, To: to, Txn: t, A: a, B: b}
}

// keyAsked is the message 3.
func keyAsked(from, to int, t api.Txn, a uint64, key string) msg.Msg {
	return msg.Msg{Kind: 3, From: from, To: to, Txn: t, A: a, Key: key}
}

// keyTold is the message 4, of a key that has a value.
func keyTold(from, to int, t api.Txn, a uint64, key string, time uint64, value string) msg.Msg {
	return msg.Msg{Kind: 4, From: from, To: to, Txn: t, A: a, Key: key, Found: true, V: api.Version{Time: time, Value: value}}
}

// keyNone is the message 4, of a key that has none.
func keyNone(from, to int, t api.Txn, a uint64, key string) msg.Msg {
	return msg.Msg{Kind: 4, From: from, To: to, Txn: t, A: a, Key: key}
}

// keyBusy is the message 4, of a key that is busy.
func keyBusy(from, to int, t api.Txn, a uint64, key string) msg.Msg {
	return msg.Msg{Kind: 4, From: from, To: to, Txn: t, A: a, Key: key, B: 1}
}

// voteAsked is the message 5.
func voteAsked(from, to int, t api.Txn, a uint64, l ...api.Write) msg.Msg {
	return msg.Msg{Kind: 5, From: from, To: to, Txn: t, A: a, Writes: l}
}

// voteTold is the message 6: 1 is yes.
func voteTold(from, to int, t api.Txn, b uint64) msg.Msg {
	return msg.Msg{Kind: 6, From: from, To: to, Txn: t, B: b}
}

// endTold is the message 7: 0 is that it has aborted.
func endTold(from, to int, t api.Txn, b uint64) msg.Msg {
	return msg.Msg{Kind: 7, From: from, To: to, Txn: t, B: b}
}

// doneTold is the message 8.
func doneTold(from, to int, t api.Txn) msg.Msg {
	return msg.Msg{Kind: 8, From: from, To: to, Txn: t}
}

// endAsked is the message 9.
func endAsked(from, to int, t api.Txn) msg.Msg {
	return msg.Msg{Kind: 9, From: from, To: to, Txn: t}
}

// lifeBegan is the record 1.
func lifeBegan(life int) msg.Msg {
	return msg.Msg{Kind: 1, A: uint64(life)}
}

// limitRose is the record 2.
func limitRose(limit uint64) msg.Msg {
	return msg.Msg{Kind: 2, A: limit}
}

// partPrepared is the record 5.
func partPrepared(t api.Txn, start uint64, l ...api.Write) msg.Msg {
	return msg.Msg{Kind: 5, Txn: t, A: start, Writes: l}
}

// runCommitted is the record 6.
func runCommitted(t api.Txn, time uint64, l ...api.Write) msg.Msg {
	return msg.Msg{Kind: 6, Txn: t, B: time, Writes: l}
}

// partEnded is the record 7.
func partEnded(t api.Txn, time uint64) msg.Msg {
	return msg.Msg{Kind: 7, Txn: t, B: time}
}

// bytesOf are a record's bytes, which it has.
func bytesOf(t *testing.T, m msg.Msg) string {
	t.Helper()
	b, e := msg.Encode(3, m)
	if e != api.OK {
		t.Fatalf("%s has no bytes: error %d", brief(m), e)
	}
	return b
}

// disked is a disk of so many sectors that has these bytes as records.
func disked(t *testing.T, sectors int, records ...string) *disk.Disk {
	t.Helper()
	d := disk.New(sectors)
	l, _, e := log.Open(crc.Make(), d)
	if e != api.OK {
		t.Fatalf("no log: error %d", e)
	}
	for _, r := range records {
		if e := l.Append(r); e != api.OK {
			t.Fatalf("no room for %q: error %d", short(r), e)
		}
	}
	l.Sync()
	return d
}

// recorded is such a disk that has these records.
func recorded(t *testing.T, sectors int, records ...msg.Msg) *disk.Disk {
	t.Helper()
	var l []string
	for _, m := range records {
		l = append(l, bytesOf(t, m))
	}
	return disked(t, sectors, l...)
}

// tight is a disk that has a record 6 of a transaction, and so many bytes free behind it.
func tight(t *testing.T, one api.Txn, free int) *disk.Disk {
	t.Helper()
	m := runCommitted(one, 5, put("\xffk", ""), put("m", strings.Repeat("p", 200)))
	m.Writes[0].Value = strings.Repeat("p", 11*64-free-6-len(bytesOf(t, m))-1) // of which the length has two bytes
	return recorded(t, 11, m)
}

// stands is what stands on a disk, whose power is there.
func stands(t *testing.T, d *disk.Disk) []string {
	t.Helper()
	var all strings.Builder
	for i := range d.Sectors() {
		b, e := d.Read(i)
		if e != api.OK {
			t.Fatalf("no sector %d: error %d", i, e)
		}
		all.WriteString(b)
	}
	l, _ := log.Stands(crc.Make(), all.String())
	return l
}

// same tells whether two messages are the same; a list of no writes may be nil or empty.
func same(a, b msg.Msg) bool {
	ok := slices.Equal(a.Writes, b.Writes)
	a.Writes, b.Writes = nil, nil
	return ok && reflect.DeepEqual(a, b)
}

// sameOutcome tells whether two outcomes are the same.
func sameOutcome(a, b node.Outcome) bool {
	ok := slices.Equal(a.Reads, b.Reads) && slices.Equal(a.Writes, b.Writes)
	return ok && a.Stage == b.Stage && a.Start == b.Start && a.Commit == b.Commit
}

// short is as much of a text as a fault is told with.
func short(s string) string {
	return s[:min(len(s), 20)]
}

// brief is as much of a message as a fault is told with.
func brief(m msg.Msg) string {
	var b strings.Builder
	b.WriteString("[kind " + strconv.Itoa(m.Kind) + ", " + strconv.Itoa(m.From) + " to " + strconv.Itoa(m.To) + ", txn")
	for _, i := range []int{m.Txn.Node, m.Txn.Life, m.Txn.Seq} {
		b.WriteString(" " + strconv.Itoa(i))
	}
	b.WriteString(", A " + strconv.FormatUint(m.A, 10) + ", B " + strconv.FormatUint(m.B, 10))
	if m.Key != "" || m.Found {
		b.WriteString(", key " + strconv.Quote(short(m.Key)))
	}
	if m.Found {
		b.WriteString(" has " + short(m.V.Value) + " of " + strconv.FormatUint(m.V.Time, 10))
	}
	for _, w := range m.Writes {
		b.WriteString(", " + strconv.Quote(short(w.Key)) + "=" + short(w.Value))
	}
	return b.String() + "]"
}

// briefs are as much of some messages.
func briefs(l []msg.Msg) string {
	var all []string
	for _, m := range l {
		all = append(all, brief(m))
	}
	return "(" + strings.Join(all, " ") + ")"
}
