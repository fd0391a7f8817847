package node_test

import (
	"math/rand/v2"
	"slices"
	"strings"
	"testing"

	"isogloss/api"
	"isogloss/crc"
	"isogloss/disk"
	"isogloss/msg"
	"isogloss/node"
)

// checkNoOpen holds that Open answers an error, and no node.
func checkNoOpen(t *testing.T, d *disk.Disk, id, nodes, version int, want api.Errno) {
	t.Helper()
	if n, e := node.Open(crc.Make(), d, id, nodes, version); n != nil || e != want {
		t.Errorf("Open(%d, %d, %d): error %d, not %d", id, nodes, version, e, want)
	}
}

// P15.1: what may be a node: of how many, which one, and in which version; each that isn't is ErrArg, alone and beside the others, and makes no record.
func TestOpenArg(t *testing.T) {
	ints := []int{leastInt, -1 << 32, -1, 0, 1, 2, 3, 4, 5, 6, 7, 100, 1<<32 + 1, mostInt}
	for _, nodes := range ints {
		for _, id := range ints {
			for _, version := range ints {
				d := disk.New(2)
				if nodes < 1 || nodes > 5 || id < 0 || id >= nodes || version < 1 || version > 3 {
					checkNoOpen(t, d, id, nodes, version, api.ErrArg)
					if l := stands(t, d); len(l) > 0 || d.Waits() > 0 {
						t.Errorf("records: %q", l)
					}
					continue
				}
				n, e := node.Open(crc.Make(), d, id, nodes, version)
				if e != api.OK || n.Version() != version || n.Life() != 1 {
					t.Errorf("Open(%d, %d, %d): error %d", id, nodes, version, e)
				}
			}
		}
	}
}

// P15.1: each node of each number of them, with its life, and nothing else.
func TestOpenNew(t *testing.T) {
	for nodes := 1; nodes <= 5; nodes++ {
		for id := range nodes {
			b := fresh(t, id, nodes)
			if l := b.slow.records; len(l) != 1 || !same(l[0], lifeBegan(1)) {
				t.Errorf("records: %s", briefs(l))
			}
			if s := b.fast.Store(); s == nil || len(s.Keys()) > 0 {
				t.Error("the store isn't empty")
			}
			if b.fast.Life() != 1 || b.fast.Running() != 0 || b.fast.Locked() != 0 || b.fast.Over() {
				t.Error("it isn't new")
			}
			b.tick().sent()
			b.nothing(msg.Msg{To: id})
		}
	}
}

// P15.1: the log's error, behind ErrArg, and ahead of a record that is none.
func TestOpenLost(t *testing.T) {
	for _, records := range [][]string{nil, {"none"}, {bytesOf(t, lifeBegan(1))}, {bytesOf(t, lifeBegan(1)), "none"}} {
		d := disked(t, 4, records...)
		d.Fuse(0)
		checkNoOpen(t, d, 0, 1, 1, api.ErrLost)
		checkNoOpen(t, d, 0, 1, 0, api.ErrArg)
		checkNoOpen(t, d, 1, 1, 1, api.ErrArg)
		checkNoOpen(t, d, 0, 6, 1, api.ErrArg)
		d.Crash(nil)
		if l := stands(t, d); !slices.Equal(l, records) {
			t.Errorf("records: %q, not %q", l, records)
		}
	}
}

// P15.1: where the power goes with the life's record there is no node; with more power there is one.
func TestOpenFuse(t *testing.T) {
	for _, pad := range []int{0, 40, 52, 53, 54, 55, 56} {
		for fuse := range 5 {
			d := recorded(t, 6, runCommitted(api.Txn{}, 1, put("", strings.Repeat("p", pad))))
			end := len(stands(t, d)[0]) + 6
			writes := (end+6+4-1)/64 - end/64 + 1
			d.Fuse(fuse)
			if fuse <= writes {
				checkNoOpen(t, d, 0, 1, 1, api.ErrLost)
				d.Crash(slices.Repeat([]uint8{255}, fuse))
				if l := stands(t, d); len(l) != 1+fuse/writes {
					t.Errorf("%d records", len(l))
				}
			} else if n, e := node.Open(crc.Make(), d, 0, 1, 1); e != api.OK || n.Life() != 1 {
				t.Errorf("a fuse of %d: error %d", fuse, e)
			}
		}
	}
}

// P15.1: on a disk that is full of records, or has no sector, there is no room for a life; behind a record that is none.
func TestOpenFull(t *testing.T) {
	checkNoOpen(t, disk.New(0), 0, 1, 1, api.ErrFull)
	checkNoOpen(t, disk.New(0), 0, 1, 4, api.ErrArg)
	for _, free := range []int{0, 1, 6, 9, 10, 11, 20} {
		d := tight(t, txn(0, 1, 1), free)
		if n, e := node.Open(crc.Make(), d, 0, 2, 1); free >= 10 && e != api.OK || free < 10 && (e != api.ErrFull || n != nil) {
			t.Errorf("with %d bytes free: error %d", free, e)
		}
		if l := stands(t, d); free < 10 && len(l) != 1 {
			t.Errorf("%d records", len(l))
		}
	}
	checkNoOpen(t, disked(t, 1, strings.Repeat("n", 58)), 0, 1, 1, api.ErrForm)
}

// P15.1: what is no record: no message, one that leaves something, one of a kind that no record has; wherever it stands. The disk is left as it is.
func TestOpenForm(t *testing.T) {
	life := bytesOf(t, lifeBegan(3))
	critical := msg.Msg{Kind: 1, A: 3, Must: 1}
	wrong := []string{
		"\x00", "\x01\x00", "none", life + "\x00", life[:len(life)-1], "\x0a" + life[1:], strings.Repeat("\xff", 1000),
		life + "\x1a\x00", life + "\x1a\x01a", life + "\x1c\x00", life + "\x1b\x00", bytesOf(t, critical) + "\x1a\x00",
	}
	for _, kind := range []int{3, 4, 8, 9} {
		wrong = append(wrong, bytesOf(t, msg.Msg{Kind: kind}), bytesOf(t, msg.Msg{Kind: kind, Txn: txn(0, 1, 1), A: 5, B: 6, Key: "k", Writes: puts("k")}))
	}
	for _, w := range wrong {
		for _, records := range [][]string{{w}, {life, w}, {w, life}, {w, w}, {bytesOf(t, partPrepared(txn(1, 1, 1), 5, puts("k")...)), w, bytesOf(t, limitRose(100))}} {
			d := disked(t, sectors, records...)
			checkNoOpen(t, d, 0, 1, 1, api.ErrForm)
			checkNoOpen(t, d, 0, 1, 0, api.ErrArg)
			if l := stands(t, d); !slices.Equal(l, records) || d.Waits() > 0 {
				t.Errorf("records: %q, not %q", l, records)
			}
		}
	}
	// What a message may have besides, and a record has no use for, makes it no worse.
	rich := msg.Msg{Kind: 1, From: 1, To: 2, Txn: txn(1, 2, 3), A: 6, B: 7, Key: "k", Found: true, V: api.Version{Time: 5}, Writes: puts("k"), Note: "n", Hint: 8, Must: 9}
	if b := fresh(t, 0, 1, rich); b.fast.Life() != 7 {
		t.Errorf("Life: %d", b.fast.Life())
	}
}

// P15.1: a life is one greater than the greatest one, wherever that stands.
func TestOpenLives(t *testing.T) {
	for _, c := range []struct {
		lives []int
		want  int
	}{{nil, 1}, {[]int{0}, 1}, {[]int{1}, 2}, {[]int{1, 2, 3}, 4}, {[]int{3, 1, 2}, 4}, {[]int{1, 300, 7}, 301}, {[]int{1<<31 - 2}, 1<<31 - 1}, {[]int{5, 5}, 6}} {
		var records []msg.Msg
		for _, life := range c.lives {
			records = append(records, lifeBegan(life))
		}
		b := fresh(t, 1, 2, records...)
		if got := b.fast.Life(); got != c.want {
			t.Errorf("behind %v: %d, not %d", c.lives, got, c.want)
		}
		if one := b.begin(program(nil)); one != txn(1, c.want, 1) {
			t.Errorf("Begin: %v", one)
		}
		for i := range 3 {
			if b = b.again(); b.fast.Life() != c.want+i+1 {
				t.Errorf("again: %d", b.fast.Life())
			}
		}
	}
}

// P15.1: a life whose number is greater than an int has none behind it: it is no record.
func TestOpenLastLife(t *testing.T) {
	for _, life := range []uint64{1<<63 - 1, 1 << 63, greatest - 1, greatest} {
		d := recorded(t, 4, msg.Msg{Kind: 1, A: life})
		checkNoOpen(t, d, 0, 1, 1, api.ErrForm)
	}
	n, e := node.Open(crc.Make(), recorded(t, 4, msg.Msg{Kind: 1, A: mostInt - 1}), 0, 1, 1)
	if e != api.OK || n.Life() != mostInt {
		t.Errorf("error %d", e)
	}
}

// kinds are some records of each kind, of the node 1 of three.
func kinds() [][]msg.Msg {
	own, other := puts("\x60k", "\x60m"), puts("\x00k", "\xffk", "\x61n")
	p, q := partPrepared(txn(2, 4, 1), 5, own...), partPrepared(txn(1, 1, 2), 6, drop("\x70"))
	return [][]msg.Msg{
		{lifeBegan(1)}, {lifeBegan(9)}, {limitRose(100)}, {limitRose(100), limitRose(200)}, {p}, {p, q}, {q, p},
		{runCommitted(txn(1, 1, 1), 7, other...)}, {runCommitted(txn(1, 2, 1), 9, own...), runCommitted(txn(1, 1, 5), 7, other...)},
		{p, partEnded(p.Txn, 8)}, {p, partEnded(p.Txn, 0)}, {p, q, partEnded(p.Txn, 8)}, {p, q, partEnded(q.Txn, 0)}, {q, p, partEnded(q.Txn, 8), partEnded(p.Txn, 7)},
		{p, partEnded(p.Txn, 8), partPrepared(txn(2, 4, 2), 8, own...), partEnded(txn(2, 4, 2), 10), partPrepared(txn(0, 4, 2), 10, drop("\x60k"), put("\x60z", "")), partEnded(txn(0, 4, 2), 11)},
		{lifeBegan(1), limitRose(100), p, q, runCommitted(q.Txn, 8, own...), partEnded(q.Txn, 8), lifeBegan(2), limitRose(200), partEnded(p.Txn, 0)},
	}
}

// P15.1: what the records say is done: behind each kind of record the store, what is prepared, and what was committed are as they were; nothing runs, and nothing is sent.
func TestOpenAgain(t *testing.T) {
	for _, records := range kinds() {
		b := fresh(t, 1, 3, records...)
		if l := b.slow.records; len(l) != len(records)+1 || !same(l[len(l)-1], lifeBegan(b.fast.Life())) {
			t.Errorf("records: %s", briefs(l))
		}
		for range 3 {
			b.tick().sentAsSlow()
			for _, m := range records {
				b.handle(endAsked(0, 1, m.Txn)).sentAsSlow()
			}
			b.begin(program(nil, puts("\x00a")...))
			b = b.again()
		}
	}
}

// P15.1: opened twice, with nothing between, it is as opened once, but for its life.
func TestOpenTwice(t *testing.T) {
	for _, records := range kinds() {
		once, twice := fresh(t, 1, 3, records...), fresh(t, 1, 3, records...).again()
		if once.fast.Life()+1 != twice.fast.Life() || once.fast.Locked() != twice.fast.Locked() {
			t.Errorf("%d, %d", twice.fast.Life(), twice.fast.Locked())
		}
		once.fast.Tick()
		twice.fast.Tick()
		if one, other := once.fast.Send(), twice.fast.Send(); !slices.EqualFunc(one, other, same) {
			t.Errorf("sent: %s, not %s", briefs(other), briefs(one))
		}
		if one, other := once.fast.Store(), twice.fast.Store(); !slices.Equal(one.Scan("", "", greatest, 100), other.Scan("", "", greatest, 100)) {
			t.Error("the stores aren't the same")
		}
	}
}

// P15.1: written out: a node that is opened again has what it had.
func TestOpenAgainWrittenOut(t *testing.T) {
	b := fresh(t, 1, 3, kinds()[15]...)
	s := b.fast.Store()
	if v, ok := s.At("\x70", 8); !ok || v != (api.Version{Time: 8, Gone: true}) {
		t.Errorf("%v", v)
	}
	if _, ok := s.At("\x70", 7); ok || s.Last("\x60k") != 0 || len(s.Keys()) != 1 {
		t.Errorf("%q", s.Keys())
	}
	if b.fast.Life() != 3 || b.fast.Locked() != 0 {
		t.Errorf("life %d, and %d are prepared", b.fast.Life(), b.fast.Locked())
	}
	b.tick().sent(endTold(1, 1, txn(1, 1, 2), 8))
	b = fresh(t, 1, 3, kinds()[6]...)
	b.handle(keyAsked(0, 1, txn(0, 1, 1), 9, "\x60m")).sent(keyBusy(1, 0, txn(0, 1, 1), 9, "\x60m"))
	b.tick().sent(endAsked(1, 1, txn(1, 1, 2)), endAsked(1, 2, txn(2, 4, 1)))
	b.handle(endTold(2, 1, txn(2, 4, 1), 5)).sent()
	b.handle(endTold(2, 1, txn(2, 4, 1), 6)).sent(doneTold(1, 2, txn(2, 4, 1)))
	b.check()
}

// P15.1: one that is prepared stays as it was, where a second record says that it was prepared.
func TestOpenPreparedTwice(t *testing.T) {
	for _, starts := range [][]uint64{{5, 9}, {5, 2}} {
		b := fresh(t, 1, 3, partPrepared(preparedTxn, starts[0], put("\x60k", "v")), partPrepared(preparedTxn, starts[1], put("\x60m", "w")))
		b.nothing(endTold(2, 1, preparedTxn, 5))
		b.handle(endTold(2, 1, preparedTxn, 6)).sent(doneTold(1, 2, preparedTxn)).check()
	}
}

// P15.1: the oracle goes on behind the greatest limit that was noted, and notes one ahead of the next time.
func TestOpenLimits(t *testing.T) {
	for _, c := range []struct {
		records []msg.Msg
		want    uint64
	}{
		{nil, 1}, {[]msg.Msg{limitRose(100)}, 101}, {[]msg.Msg{limitRose(100), limitRose(200)}, 201}, {[]msg.Msg{limitRose(200), limitRose(100)}, 201},
		{[]msg.Msg{lifeBegan(1), limitRose(100), lifeBegan(2)}, 101}, {[]msg.Msg{limitRose(7), lifeBegan(1)}, 8}, {[]msg.Msg{limitRose(greatest - 1)}, greatest},
	} {
		b := fresh(t, 0, 2, c.records...)
		one := txn(1, 1, 1)
		b.handle(timeAsked(1, one, 1)).sent(timeTold(1, one, 1, c.want))
		l := b.slow.records
		if last := l[len(l)-1]; last.Kind != 2 || last.A < c.want {
			t.Errorf("the last record is %s", brief(last))
		}
		b.check()
	}
	b := fresh(t, 0, 2, limitRose(greatest))
	b.nothing(timeAsked(1, txn(1, 1, 1), 1))
}

// P15.1, R1: records in whatever order are done as far as they can be.
func TestOpenWhateverRecords(t *testing.T) {
	r := rand.New(rand.NewPCG(15, 1))
	for range 400 {
		var records []msg.Msg
		for range r.IntN(12) {
			m := randomRecord(r)
			if m.Kind == 5 && r.IntN(3) > 0 {
				records = append(records, m)
				m = partEnded(m.Txn, m.A+1+uint64(r.IntN(2)))
			}
			records = append(records, m)
		}
		b := fresh(t, r.IntN(2), 2, records...)
		b.tick().sentAsSlow()
		b.again().tick().sentAsSlow()
	}
}

// randomRecord is a record of any kind.
func randomRecord(r *rand.Rand) msg.Msg {
	one, l := txn(r.IntN(2), r.IntN(2), r.IntN(3)), randomWrites(r)
	switch r.IntN(6) {
	case 0:
		return lifeBegan(r.IntN(10))
	case 1:
		return limitRose(uint64(r.IntN(500)))
	case 2:
		return runCommitted(one, uint64(1+r.IntN(20)), l...)
	case 3:
		return partEnded(one, uint64(r.IntN(20)))
	}
	return partPrepared(one, uint64(r.IntN(12)), l...)
}

// P15.1, R1: on a disk of whatever bytes Open doesn't panic, and answers a node, or none beside an error.
func TestOpenWhateverBytes(t *testing.T) {
	r := rand.New(rand.NewPCG(15, 2))
	for range 300 {
		d := disk.New(r.IntN(6))
		for i := range d.Sectors() {
			var s strings.Builder
			for range 64 {
				s.WriteByte(byte(r.Uint32() >> (8 * r.IntN(4))))
			}
			d.Write(i, s.String())
		}
		if n, e := node.Open(crc.Make(), d, 0, 1, 1); (n == nil) != (e != api.OK) {
			t.Errorf("error %d", e)
		}
	}
	for range 3000 {
		m := randomRecord(r)
		b := []byte(bytesOf(t, m))
		b[r.IntN(len(b))] += byte(r.IntN(3))
		d := disked(t, sectors, string(b), string(b[:1+r.IntN(len(b))]))
		n, e := node.Open(crc.Make(), d, 0, 1, 1)
		if (n == nil) != (e != api.OK) {
			t.Errorf("error %d", e)
		}
		if n != nil {
			n.Tick()
			n.Handle(endAsked(0, 0, m.Txn))
		}
	}
}
