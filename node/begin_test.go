package node_test

import (
	"slices"
	"strconv"
	"strings"
	"testing"

	"isogloss/api"
	"isogloss/coord"
	"isogloss/msg"
)

// manyKeys are n keys, all of the node 0.
func manyKeys(n int) []string {
	var l []string
	for i := range n {
		l = append(l, "\x00key"+strconv.Itoa(i))
	}
	return l
}

// programs are some that may be begun: without reads, without writes, without both; with one of each and with the most of each.
func programs() []coord.Prog {
	return []coord.Prog{
		{}, program([]string{"a"}), program(nil, put("a", "v")), program([]string{"a"}, drop("a")),
		program(manyKeys(api.MaxWrites)), program(nil, puts(manyKeys(api.MaxWrites)...)...), program(manyKeys(8), puts(manyKeys(8)...)...),
		program([]string{"a", "a", "", "a"}, put("", "")), program([]string{strings.Repeat("k", 100)}, put(strings.Repeat("k", 100), strings.Repeat("v", 500))),
	}
}

// P15.2: Txn has the node, the life, and 1, 2, ..; the message 1 (A 1) is sent to the node 0, and nothing else; no record is made.
func TestBegin(t *testing.T) {
	for nodes := 1; nodes <= 5; nodes++ {
		for _, id := range []int{0, nodes - 1} {
			b := fresh(t, id, nodes, lifeBegan(6))
			for i, p := range programs() {
				one := b.begin(p)
				if one != txn(id, 7, i+1) {
					t.Errorf("Begin: %v", one)
				}
				b.sent(timeAsked(id, one, 1))
				if o, ok := b.fast.Outcome(one); !ok || o.Stage != 1 || !slices.Equal(o.Writes, p.Writes) || len(o.Reads) > 0 {
					t.Errorf("Outcome: %v, %t", o, ok)
				}
			}
			for i := len(programs()); i < 12; i++ {
				if one := b.begin(program(nil)); one != txn(id, 7, i+1) {
					t.Errorf("Begin: %v", one)
				}
			}
			b.sentAsSlow().check()
			b = b.again()
			if one := b.begin(program(nil)); one != txn(id, 8, 1) {
				t.Errorf("Begin in the next life: %v", one)
			}
		}
	}
}

// P15.2: layer 14's errors, in its order; the next run has the number that this one would have had.
func TestBeginErrors(t *testing.T) {
	longKey, longValue := strings.Repeat("k", 101), strings.Repeat("v", 501)
	wrong := api.Write{Key: "g", Gone: true, Value: "v"}
	for _, c := range []struct {
		p    coord.Prog
		want api.Errno
	}{
		{program(manyKeys(9)), api.ErrArg},
		{program(nil, puts(manyKeys(9)...)...), api.ErrArg},
		{program(nil, put("a", "1"), put("b", "2"), put("a", "1")), api.ErrArg},
		{program(nil, put("a", ""), drop("a")), api.ErrArg},
		{program(nil, put("a", ""), wrong), api.ErrArg},
		{program([]string{"a", longKey}), api.ErrLong},
		{program(nil, put(longKey, "")), api.ErrLong},
		{program(nil, put("a", ""), put("b", longValue)), api.ErrLong},
		{program([]string{longKey}, put("a", ""), put("a", "")), api.ErrArg},
		{program(nil, put(longKey, longValue), wrong), api.ErrArg},
		{program(append(manyKeys(8), longKey), put("a", "")), api.ErrArg},
		{program(nil, put("a", longValue), put("a", longValue)), api.ErrArg},
	} {
		b := fresh(t, 1, 2)
		b.refuse(c.p, c.want)
		one := b.begin(program(nil))
		b.sent(timeAsked(1, one, 1)).refuse(c.p, c.want)
		if next := b.begin(program(nil)); one.Seq != 1 || next.Seq != 2 {
			t.Errorf("Begin: %v, %v", one, next)
		}
	}
}

// padded are writes, of eight keys, whose record 6 at the greatest time has so many bytes.
func padded(t *testing.T, one api.Txn, n int) []api.Write {
	t.Helper()
	l := puts(manyKeys(8)...)
	for i := range l {
		l[i].Value = strings.Repeat("v", 500)
	}
	l[7].Value = strings.Repeat("v", 200)
	more := n - len(bytesOf(t, runCommitted(one, greatest, l...)))
	l[7].Value = strings.Repeat("v", 200+more)
	if b, e := msg.Encode(3, runCommitted(one, greatest, l...)); e == api.OK && len(b) != n || (e != api.OK) != (n > 4000) {
		t.Fatalf("it has %d bytes: error %d", len(b), e)
	}
	return l
}

// P15.2: ErrLong, if the record 6 would be too long, whatever the time is: writes that are just short enough, and one byte longer. What the numbers of Txn need counts, too.
func TestBeginTooLong(t *testing.T) {
	for _, life := range []int{0, 126, 127, 16382, 16383, 1<<31 - 3} {
		b := fresh(t, 1, 2, lifeBegan(life))
		one := txn(1, life+1, 1)
		for _, n := range []int{4001, 4002, 4030} {
			b.refuse(program(nil, padded(t, one, n)...), api.ErrLong)
			b.refuse(program([]string{"a"}, padded(t, one, n)...), api.ErrLong)
		}
		p := padded(t, one, 4001)
		p[3].Key = p[2].Key
		b.refuse(program(nil, p...), api.ErrArg)
		for i, n := range []int{4000, 3999, 3900} {
			if got := b.begin(program(nil, padded(t, one, n)...)); got.Seq != i+1 {
				t.Errorf("Begin: %v", got)
			}
		}
		b.sentAsSlow().check()
	}
}

// P15.2: what could just be begun commits, at the greatest time, too.
func TestBeginLongest(t *testing.T) {
	for _, time := range []uint64{2, 1 << 40, greatest} {
		b := fresh(t, 1, 2)
		one := b.begin(program(nil, padded(t, txn(1, 1, 1), 4000)...))
		b.handle(timeTold(1, one, 1, 1)).handle(voteTold(0, 1, one, 1)).sentAsSlow()
		b.handle(timeTold(1, one, 2, time)).sent(endTold(1, 0, one, time)).check()
		if o, _ := b.fast.Outcome(one); o.Stage != 5 || o.Commit != time {
			t.Errorf("the stage is %d", o.Stage)
		}
		b.again().tick().sent(endTold(1, 0, one, time))
	}
}

// P15.2: seven writes with the greatest keys and values are too long for one record, six aren't.
func TestBeginGreatestWrites(t *testing.T) {
	var l []api.Write
	for i := range 8 {
		l = append(l, put(strings.Repeat(strconv.Itoa(i), 100), strings.Repeat("v", 500)))
	}
	b := fresh(t, 0, 5)
	b.refuse(program(nil, l...), api.ErrLong)
	b.refuse(program(nil, l[:7]...), api.ErrLong)
	b.begin(program(nil, l[:6]...))
	b.sentAsSlow().check()
}

// P15.2: ErrLost, if the log is over, ahead of all else; a log that hasn't met the power's end yet isn't.
func TestBeginOver(t *testing.T) {
	b := fresh(t, 0, 1).fuse(0)
	one := b.begin(program(nil, puts("a")...))
	b.sent(timeAsked(0, one, 1))
	b.handle(timeAsked(0, one, 1)).sent()
	if !b.fast.Over() {
		t.Fatal("the log isn't over")
	}
	for _, p := range append(programs(), program(manyKeys(9)), program(nil, put("a", ""), put("a", "")), program([]string{strings.Repeat("k", 101)}), program(nil, padded(t, one, 4001)...)) {
		b.refuse(p, api.ErrLost)
	}
	b = b.again()
	if next := b.begin(program(nil)); next != txn(0, 2, 1) {
		t.Errorf("Begin: %v", next)
	}
}
