package msg_test

import (
	"math"
	"math/rand/v2"
	"slices"
	"strings"
	"testing"

	"isogloss/api"
	"isogloss/msg"
)

// written is a message with its bytes of version 3, written out.
type written struct {
	m msg.Msg
	b string
}

// writtenOut are messages of a kind alone, with each field alone, and with more of them.
func writtenOut() []written {
	const n, all = 1<<31 - 1, 1<<64 - 1
	const five, ten = "\xff\xff\xff\xff\x07", "\xff\xff\xff\xff\xff\xff\xff\xff\xff\x01" // of n, and of all
	return []written{
		{msg.Msg{Kind: 1, Key: "a"}, "\x01\x0c\x01a"},
		{msg.Msg{Kind: 1}, "\x01"},
		{msg.Msg{Kind: 9}, "\x09"},
		{msg.Msg{Kind: 1, From: 1}, "\x01\x02\x01\x01"},
		{msg.Msg{Kind: 1, From: n}, "\x01\x02\x05" + five},
		{msg.Msg{Kind: 1, To: 300}, "\x01\x04\x02\xac\x02"},
		{msg.Msg{Kind: 1, To: n}, "\x01\x04\x05" + five},
		{msg.Msg{Kind: 2, Txn: api.Txn{Node: 1, Life: 2, Seq: 3}}, "\x02\x06\x03\x01\x02\x03"},
		{msg.Msg{Kind: 2, Txn: api.Txn{Node: 1}}, "\x02\x06\x03\x01\x00\x00"},
		{msg.Msg{Kind: 2, Txn: api.Txn{Life: 1}}, "\x02\x06\x03\x00\x01\x00"},
		{msg.Msg{Kind: 2, Txn: api.Txn{Seq: n}}, "\x02\x06\x07\x00\x00" + five},
		{msg.Msg{Kind: 2, Txn: api.Txn{Node: n, Life: n, Seq: n}}, "\x02\x06\x0f" + five + five + five},
		{msg.Msg{Kind: 3, A: 1}, "\x03\x08\x01\x01"},
		{msg.Msg{Kind: 3, A: all}, "\x03\x08\x0a" + ten},
		{msg.Msg{Kind: 3, B: 128}, "\x03\x0a\x02\x80\x01"},
		{msg.Msg{Kind: 3, B: all}, "\x03\x0a\x0a" + ten},
		{msg.Msg{Kind: 4, Key: "\x00"}, "\x04\x0c\x01\x00"},
		{msg.Msg{Kind: 4, Key: strings.Repeat("k", 128)}, "\x04\x0c\x80\x01" + strings.Repeat("k", 128)},
		{msg.Msg{Kind: 4, Found: true}, "\x04\x0e\x00"},
		{msg.Msg{Kind: 5, V: api.Version{Time: 300}}, "\x05\x10\x03\xac\x02\x00"},
		{msg.Msg{Kind: 5, V: api.Version{Value: "v"}}, "\x05\x10\x03\x00\x00v"},
		{msg.Msg{Kind: 5, V: api.Version{Gone: true}}, "\x05\x10\x02\x00\x01"},
		{msg.Msg{Kind: 5, V: api.Version{Time: all, Gone: true}}, "\x05\x10\x0b" + ten + "\x01"},
		{msg.Msg{Kind: 5, V: api.Version{Time: 1, Value: "\x01\x00"}}, "\x05\x10\x04\x01\x00\x01\x00"},
		{msg.Msg{Kind: 6, Writes: []api.Write{{Key: "k", Value: "vw"}}}, "\x06\x12\x07\x01\x00\x01k\x02vw"},
		{msg.Msg{Kind: 6, Writes: []api.Write{{Key: "k", Gone: true}}}, "\x06\x12\x05\x01\x01\x01k\x00"},
		{msg.Msg{Kind: 6, Writes: []api.Write{{}}}, "\x06\x12\x04\x01\x00\x00\x00"},
		{msg.Msg{Kind: 6, Writes: []api.Write{{Gone: true}, {Key: "b", Value: "c"}}}, "\x06\x12\x09\x02\x01\x00\x00\x00\x01b\x01c"},
		{msg.Msg{Kind: 6, Writes: make([]api.Write, 8)}, "\x06\x12\x19\x08" + strings.Repeat("\x00\x00\x00", 8)},
		{msg.Msg{Kind: 7, Note: "n"}, "\x07\x14\x01n"},
		{msg.Msg{Kind: 7, Hint: 1}, "\x07\x16\x01\x01"},
		{msg.Msg{Kind: 7, Hint: all}, "\x07\x16\x0a" + ten},
		{msg.Msg{Kind: 8, Must: 1}, "\x08\x19\x01\x01"},
		{msg.Msg{Kind: 8, Must: all}, "\x08\x19\x0a" + ten},
		{full(), fullBytes + noteBytes + hintBytes + mustBytes},
	}
}

// The bytes of the message with every field: of version 1, and of what comes with the later ones.
const (
	fullBytes = "\x09\x02\x01\x01\x04\x01\x02\x06\x04\x03\x04\xac\x02\x08\x01\x05\x0a\x01\x06\x0c\x03key\x0e\x00" +
		"\x10\x05\x07\x00val\x12\x0e\x02\x00\x01x\x02yz\x01\x04gone\x00"
	noteBytes = "\x14\x04note"
	hintBytes = "\x16\x01\x08"
	mustBytes = "\x19\x01\x09"
)

// P5.1: messages whose bytes are written out; the chapter's example is the first.
func TestEncodeWrittenOut(t *testing.T) {
	for _, c := range writtenOut() {
		checkEncodeIs(t, 3, c.m, c.b, api.OK)
	}
}

// P5.1: the fields that are from later versions are left out; no list of writes is like an empty one.
func TestEncodeInEachVersion(t *testing.T) {
	m := full()
	m.Must = 0
	checkEncodeIs(t, 1, m, fullBytes, api.OK)
	checkEncodeIs(t, 2, m, fullBytes+noteBytes, api.OK)
	checkEncodeIs(t, 3, m, fullBytes+noteBytes+hintBytes, api.OK)
	for v := 1; v <= 3; v++ {
		checkEncodeIs(t, v, msg.Msg{Kind: 1, Key: "a"}, "\x01\x0c\x01a", api.OK)
		checkEncodeIs(t, v, msg.Msg{Kind: 1}, "\x01", api.OK)
		checkEncodeIs(t, v, msg.Msg{Kind: 1, Writes: []api.Write{}}, "\x01", api.OK)
	}
	m = msg.Msg{Kind: 2, Note: "n", Hint: 1}
	checkEncodeIs(t, 1, m, "\x02", api.OK)
	checkEncodeIs(t, 2, m, "\x02\x14\x01n", api.OK)
	checkEncodeIs(t, 3, m, "\x02\x14\x01n\x16\x01\x01", api.OK)
}

// P5.1, P5.2: messages that are right, in each version; and what is made of them.
func TestRightMessages(t *testing.T) {
	for _, m := range rightMessages() {
		if !slowRight(m) {
			t.Fatalf("%s isn't right", told(m))
		}
		checkMessage(t, m)
	}
}

// P5.1, P5.2: ErrArg of messages that aren't right, in each way, whether they have a critical field or not.
func TestWrongMessages(t *testing.T) {
	for _, m := range wrongMessages() {
		for v := 0; v <= 4; v++ {
			checkEncodeIs(t, v, m, "", api.ErrArg)
			checkProjectIs(t, v, m, msg.Msg{}, api.ErrArg)
		}
	}
}

// noVersions are numbers that are no versions.
func noVersions() []int {
	return []int{0, 4, 5, 255, 257, 1<<32 + 1, math.MaxInt, -1, -2, -3, -255, math.MinInt, math.MinInt + 1}
}

// P5.1, P5.2: ErrArg of no version, whatever else is wrong.
func TestNoVersion(t *testing.T) {
	for _, v := range noVersions() {
		for _, m := range []msg.Msg{{Kind: 1}, {}, full(), {Kind: 1, Must: 1}, {Kind: 10, Must: 1}} {
			checkEncodeIs(t, v, m, "", api.ErrArg)
			checkProjectIs(t, v, m, msg.Msg{}, api.ErrArg)
		}
		for _, b := range []string{"\x01", "", "\x01\x0c", "\x01\x1b\x00", strings.Repeat("\x01", 4001)} {
			checkDecodeIs(t, v, b, answer{e: api.ErrArg})
		}
	}
}

// P5.1, P5.2: ErrCritical, if there is a critical field from a later version; behind ErrArg.
func TestCriticalField(t *testing.T) {
	for _, m := range []msg.Msg{{Kind: 1, Must: 1}, {Kind: 1, Must: 1<<64 - 1}, full(), {Kind: 9, Note: "n", Must: 128}} {
		for v := 1; v <= 2; v++ {
			checkEncodeIs(t, v, m, "", api.ErrCritical)
			checkProjectIs(t, v, m, msg.Msg{}, api.ErrCritical)
		}
		checkEncodeIs(t, 3, m, slowEncode(3, m), api.OK)
		checkProjectIs(t, 3, m, m, api.OK)
		m.Must = 0
		for v := 1; v <= 3; v++ {
			checkEncodeIs(t, v, m, slowEncode(v, m), api.OK)
		}
	}
	wrong := msg.Msg{Kind: 1, From: -1, Must: 1}
	checkEncodeIs(t, 1, wrong, "", api.ErrArg)
	checkProjectIs(t, 1, wrong, msg.Msg{}, api.ErrArg)
}

// longMessages are messages of just so many bytes of version 3, each as long by another field.
func longMessages(n int) []msg.Msg {
	l := []msg.Msg{full(), full(), full(), full(), full(), {Kind: 1, Must: 1}, {Kind: 1, Hint: 300}}
	grow := []func(m *msg.Msg, s string){
		func(m *msg.Msg, s string) { m.Key = s },
		func(m *msg.Msg, s string) { m.V.Value = s },
		func(m *msg.Msg, s string) { m.Note = s },
		func(m *msg.Msg, s string) { m.Writes = []api.Write{{Key: s, Gone: true}} },
		func(m *msg.Msg, s string) { m.Writes = append(someWrites(7), api.Write{Key: "k", Value: s}) },
		func(m *msg.Msg, s string) { m.Note = s },
		func(m *msg.Msg, s string) { m.Key = s },
	}
	for i := range l {
		grow[i](&l[i], strings.Repeat("l", 1000))
		more := n - len(slowEncode(3, l[i]))
		grow[i](&l[i], strings.Repeat("l", 1000+more))
	}
	return l
}

// P5.1, P5.2: just MaxMessage bytes of version 3, and one more, whatever version they are told in.
func TestEncodeLongest(t *testing.T) {
	for _, m := range longMessages(4000) {
		if n := len(slowEncode(3, m)); n != 4000 {
			t.Fatalf("%d bytes, not 4000", n)
		}
		checkMessage(t, m)
		checkDecodeIs(t, 3, mustEncode(t, m), answer{m: m})
		m.Must = 0
		for v := 1; v <= 3; v++ {
			checkEncodeIs(t, v, m, slowEncode(v, m), api.OK)
		}
	}
	for _, m := range longMessages(4001) {
		for v := 1; v <= 3; v++ {
			checkEncodeIs(t, v, m, "", api.ErrArg)
			checkProjectIs(t, v, m, msg.Msg{}, api.ErrArg)
		}
	}
	m := msg.Msg{Kind: 1, Note: strings.Repeat("n", 3996)}
	checkEncodeIs(t, 1, m, "\x01", api.OK)
	m.Note += "n"
	checkEncodeIs(t, 1, m, "", api.ErrArg)
}

// P5.1, P5.2: no writes, up to MaxWrites of them, and one more.
func TestHowManyWrites(t *testing.T) {
	for n := range 12 {
		m := msg.Msg{Kind: 5, Writes: someWrites(n)}
		want := api.OK
		if n > 8 {
			want = api.ErrArg
		}
		for v := 1; v <= 3; v++ {
			if _, e := msg.Encode(v, m); e != want {
				t.Errorf("Encode of %d writes: error %d", n, e)
			}
			if _, e := msg.Project(v, m); e != want {
				t.Errorf("Project of %d writes: error %d", n, e)
			}
		}
		checkMessage(t, m)
	}
}

// P5.2: what is from later versions is zero in what is projected, and nothing else is.
func TestProject(t *testing.T) {
	m := full()
	checkProjectIs(t, 3, m, m, api.OK)
	m.Must = 0
	checkProjectIs(t, 3, m, m, api.OK)
	second := m
	second.Hint = 0
	checkProjectIs(t, 2, m, second, api.OK)
	checkProjectIs(t, 2, second, second, api.OK)
	first := second
	first.Note = ""
	checkProjectIs(t, 1, m, first, api.OK)
	checkProjectIs(t, 1, first, first, api.OK)
	checkProjectIs(t, 1, msg.Msg{Kind: 9, Note: "n", Hint: 1}, msg.Msg{Kind: 9}, api.OK)
	checkProjectIs(t, 3, msg.Msg{}, msg.Msg{}, api.ErrArg)
}

// P5.2: the lesser version; 0, if one is none.
func TestNegotiate(t *testing.T) {
	for a := 1; a <= 3; a++ {
		for b := 1; b <= 3; b++ {
			if got := msg.Negotiate(a, b); got != min(a, b) {
				t.Errorf("Negotiate(%d, %d): %d", a, b, got)
			}
		}
	}
	for _, a := range noVersions() {
		for _, b := range append(noVersions(), 1, 2, 3) {
			if got, other := msg.Negotiate(a, b), msg.Negotiate(b, a); got != 0 || other != 0 {
				t.Errorf("Negotiate(%d, %d): %d, and the other way round %d", a, b, got, other)
			}
		}
	}
}

// P5.1, P5.2, R5: a message that is handed in is left as it is, its spare room too, and what is answered has its own memory.
func TestHandedInIsLeft(t *testing.T) {
	room := someWrites(8)
	before := slices.Clone(room)
	m := full()
	m.Writes = room[:4]
	want := m
	want.Writes = slices.Clone(room[:4])
	p, _ := msg.Project(3, m)
	b := mustEncode(t, m)
	if !slices.Equal(room, before) || !same(m, want) {
		t.Errorf("handed in: %s, room %+v", told(m), room)
	}
	d, _, _ := msg.Decode(3, b)
	other, _, _ := msg.Decode(3, b)
	for i := range room {
		room[i] = api.Write{Key: "changed"}
	}
	if !same(p, want) || !same(d, want) {
		t.Errorf("what was answered hangs on what was handed in: %s, %s", told(p), told(d))
	}
	d.Writes[0].Key = "changed"
	_ = append(d.Writes[:1], api.Write{Key: "changed"})
	if !same(other, want) {
		t.Errorf("what was answered twice hangs together: %s", told(other))
	}
	checkDecodeIs(t, 3, b, answer{m: want})
}

// P5.1, P5.2: random messages, some of them made wrong.
func TestRandomMessages(t *testing.T) {
	r := rand.New(rand.NewPCG(5, 1))
	for range 4000 {
		m := randomMessage(r)
		checkMessage(t, m)
		switch r.IntN(6) {
		case 0:
			m.Kind = r.IntN(14) - 2
		case 1:
			m.From = int(r.Uint64()) >> r.IntN(64)
		case 2:
			m.Txn.Life = int(r.Uint64()) >> r.IntN(64)
		case 3:
			m.V.Gone = true
		case 4:
			m.Writes = append(m.Writes, api.Write{Gone: r.IntN(2) == 1, Value: "v"}, api.Write{})
		case 5:
			m.Note = strings.Repeat("n", 3900+r.IntN(100))
		}
		checkMessage(t, m)
	}
}
