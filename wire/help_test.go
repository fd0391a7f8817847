package wire_test

import (
	"fmt"
	"reflect"
	"slices"
	"strings"
	"testing"

	"isogloss/api"
	"isogloss/msg"
)

// The least int, and the greatest.
const (
	leastInt = -1 << 63
	mostInt  = 1<<63 - 1
)

// noVersions are versions that are none.
func noVersions() []int {
	return []int{0, 4, 5, -1, -2, -3, leastInt, leastInt + 1, leastInt + 2, mostInt, mostInt - 1, 1<<32 + 1, 256, 257, 1 << 31}
}

// none are numbers of which there is no frame, of n that are there.
func none(n int) []int {
	return []int{-1, n, n + 1, leastInt, mostInt, -n - 1, -2, 1<<32 + n, leastInt + n}
}

// to is a message to a node, with a key that tells which one it is.
func to(node int, key string) msg.Msg {
	return msg.Msg{Kind: 1 + node%9, To: node, Key: key}
}

// numbered are n messages, each to another node.
func numbered(n int) []msg.Msg {
	var l []msg.Msg
	for i := range n {
		l = append(l, to(i+10, strings.Repeat("k", i)))
	}
	return l
}

// writes are n writes, each other one gone.
func writes(n int) []api.Write {
	var l []api.Write
	for i := range n {
		w := api.Write{Key: "w" + strings.Repeat("x", i), Gone: i%2 == 1}
		if !w.Gone {
			w.Value = strings.Repeat("v", i)
		}
		l = append(l, w)
	}
	return l
}

// full is a message of a kind with each field; that it must be known, too, where must says so.
func full(kind int, must bool) msg.Msg {
	m := msg.Msg{
		Kind: kind, From: 1, To: 2, Txn: api.Txn{Node: 3, Life: 4, Seq: 5}, A: 6, B: 7, Key: "key", Found: true,
		V: api.Version{Time: 8, Value: "value"}, Writes: writes(3), Note: "note", Hint: 9,
	}
	if must {
		m.Must = 10
	}
	return m
}

// most is a message of a kind with as much as there may be: the greatest numbers, MaxWrites writes, and MaxMessage bytes.
func most(t *testing.T, kind int) msg.Msg {
	t.Helper()
	const n, all = 1<<31 - 1, 1<<64 - 1
	m := msg.Msg{
		Kind: kind, From: n, To: n, Txn: api.Txn{Node: n, Life: n, Seq: n}, A: all, B: all, Key: strings.Repeat("k", api.MaxKey), Found: true,
		V: api.Version{Time: all, Value: strings.Repeat("v", api.MaxValue)}, Writes: writes(api.MaxWrites), Note: strings.Repeat("n", 1000), Hint: all, Must: all,
	}
	b, e := msg.Encode(3, m)
	if e != api.OK {
		t.Fatalf("error %d", e)
	}
	m.Note += strings.Repeat("n", api.MaxMessage-len(b)) // its length has two bytes still
	if b, e = msg.Encode(3, m); e != api.OK || len(b) != api.MaxMessage {
		t.Fatalf("%d bytes, error %d", len(b), e)
	}
	return m
}

// ofEachKind are messages of each kind: with nothing in them, with each field, and with the most.
func ofEachKind(t *testing.T) []msg.Msg {
	t.Helper()
	var l []msg.Msg
	for kind := 1; kind <= 9; kind++ {
		l = append(l, msg.Msg{Kind: kind}, full(kind, false), full(kind, true), most(t, kind))
	}
	return l
}

// wrong are messages that aren't right, whatever the version.
func wrong() []msg.Msg {
	long := strings.Repeat("l", api.MaxMessage)
	return []msg.Msg{
		{}, {Kind: 10}, {Kind: -1}, {Kind: leastInt}, {Kind: mostInt}, {Kind: 1, From: -1}, {Kind: 1, To: -1}, {Kind: 1, To: 1 << 31}, {Kind: 1, To: mostInt},
		{Kind: 1, From: 1 << 31}, {Kind: 1, Txn: api.Txn{Node: -1}}, {Kind: 1, Txn: api.Txn{Life: -1}}, {Kind: 1, Txn: api.Txn{Seq: 1 << 31}},
		{Kind: 1, V: api.Version{Gone: true, Value: "v"}}, {Kind: 1, Writes: []api.Write{{Gone: true, Value: "v"}}}, {Kind: 1, Writes: make([]api.Write, 9)},
		{Kind: 1, Key: long}, {Kind: 1, Note: long}, {Kind: 9, Writes: []api.Write{{Value: long}}}, {Kind: 0, Must: 1}, {Kind: 1, Note: long, Must: 1},
	}
}

// bitsOf is how many bits a frame of m in a version has that may be turned.
func bitsOf(t *testing.T, m msg.Msg, version int) int {
	t.Helper()
	b, e := msg.Encode(version, m)
	if e != api.OK {
		t.Fatalf("%s has no bytes: error %d", brief(m), e)
	}
	return 8 * (4 + len(b))
}

// same tells whether two messages are the same; a list of no writes may be nil or empty.
func same(a, b msg.Msg) bool {
	ok := slices.Equal(a.Writes, b.Writes)
	a.Writes, b.Writes = nil, nil
	return ok && reflect.DeepEqual(a, b)
}

// brief is as much of a message as a fault is told with.
func brief(m msg.Msg) string {
	s := fmt.Sprintf("%+v", m)
	return s[:min(len(s), 250)]
}
