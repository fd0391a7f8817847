package msg_test

import (
	"encoding/binary"
	"fmt"
	"math"
	"math/rand/v2"
	"reflect"
	"slices"
	"strings"
	"testing"

	"isogloss/api"
	"isogloss/msg"
)

// numberBytes are a number's bytes, as the library makes them.
func numberBytes(n uint64) string {
	return string(binary.AppendUvarint(nil, n))
}

// textBytes are a text's bytes.
func textBytes(s string) string {
	return numberBytes(uint64(len(s))) + s
}

// row is a field as the chapter's table tells it, of some message: what it has, and whether it is zero.
type row struct {
	tag      uint64
	from     int
	critical bool
	zero     bool
	text     string
}

// bytes are the field's bytes.
func (r row) bytes() string {
	head := 2 * r.tag
	if r.critical {
		head++
	}
	return numberBytes(head) + textBytes(r.text)
}

// goneByte is the byte that tells whether something is gone.
func goneByte(gone bool) string {
	return map[bool]string{false: "\x00", true: "\x01"}[gone]
}

// slowRows is the chapter's table, of m.
func slowRows(m msg.Msg) []row {
	number := func(n int) string { return numberBytes(uint64(n)) }
	writes := number(len(m.Writes))
	for _, w := range m.Writes {
		writes += goneByte(w.Gone) + textBytes(w.Key) + textBytes(w.Value)
	}
	return []row{
		{tag: 1, from: 1, zero: m.From == 0, text: number(m.From)},
		{tag: 2, from: 1, zero: m.To == 0, text: number(m.To)},
		{tag: 3, from: 1, zero: m.Txn == api.Txn{}, text: number(m.Txn.Node) + number(m.Txn.Life) + number(m.Txn.Seq)},
		{tag: 4, from: 1, zero: m.A == 0, text: numberBytes(m.A)},
		{tag: 5, from: 1, zero: m.B == 0, text: numberBytes(m.B)},
		{tag: 6, from: 1, zero: m.Key == "", text: m.Key},
		{tag: 7, from: 1, zero: !m.Found},
		{tag: 8, from: 1, zero: m.V == api.Version{}, text: numberBytes(m.V.Time) + goneByte(m.V.Gone) + m.V.Value},
		{tag: 9, from: 1, zero: len(m.Writes) == 0, text: writes},
		{tag: 10, from: 2, zero: m.Note == "", text: m.Note},
		{tag: 11, from: 3, zero: m.Hint == 0, text: numberBytes(m.Hint)},
		{tag: 12, from: 3, critical: true, zero: m.Must == 0, text: numberBytes(m.Must)},
	}
}

// slowEncode are the bytes of m in a version, whatever its critical fields are.
func slowEncode(version int, m msg.Msg) string {
	s := numberBytes(uint64(m.Kind))
	for _, r := range slowRows(m) {
		if !r.zero && r.from <= version {
			s += r.bytes()
		}
	}
	return s
}

// slowRight tells whether m is right, as the chapter's words tell it.
func slowRight(m msg.Msg) bool {
	ok := m.Kind > 0 && m.Kind < 10 && len(m.Writes) < 9 && !(m.V.Gone && m.V.Value != "")
	for _, n := range []int{m.From, m.To, m.Txn.Node, m.Txn.Life, m.Txn.Seq} {
		ok = ok && n >= 0 && n <= math.MaxInt32
	}
	for _, w := range m.Writes {
		ok = ok && !(w.Gone && w.Value != "")
	}
	return ok && len(slowEncode(3, m)) < 4001
}

// slowRefusal is the error that Encode and Project answer.
func slowRefusal(version int, m msg.Msg) api.Errno {
	if version != 1 && version != 2 && version != 3 || !slowRight(m) {
		return api.ErrArg
	}
	if m.Must != 0 && version != 3 {
		return api.ErrCritical
	}
	return api.OK
}

// slowProject is m, without what is from later versions.
func slowProject(version int, m msg.Msg) msg.Msg {
	if version < 2 {
		m.Note = ""
	}
	if version < 3 {
		m.Hint, m.Must = 0, 0
	}
	return m
}

// taker takes things from the front of some bytes, for the slow Decode.
type taker struct {
	s   string
	bad bool
}

// number takes a number, in however many bytes.
func (k *taker) number() uint64 {
	n, size := binary.Uvarint([]byte(k.s))
	if k.bad || size <= 0 {
		k.bad = true
		return 0
	}
	k.s = k.s[size:]
	return n
}

// bytes takes n bytes.
func (k *taker) bytes(n uint64) string {
	if k.bad || n > uint64(len(k.s)) {
		k.bad = true
		return ""
	}
	b := k.s[:n]
	k.s = k.s[n:]
	return b
}

// rest takes all that is left.
func (k *taker) rest() string {
	return k.bytes(uint64(len(k.s)))
}

// int takes a number of which an int is made; one below 0, if it is too great.
func (k *taker) int() int {
	if n := k.number(); n <= math.MaxInt32 {
		return int(n)
	}
	return -1
}

// slowTake takes what a tag's field has, not asking whether that is just what it should have.
func slowTake(m *msg.Msg, tag uint64, text string) {
	k := &taker{s: text}
	switch tag {
	case 1:
		m.From = k.int()
	case 2:
		m.To = k.int()
	case 3:
		m.Txn.Node = k.int()
		m.Txn.Life = k.int()
		m.Txn.Seq = k.int()
	case 4:
		m.A = k.number()
	case 5:
		m.B = k.number()
	case 6:
		m.Key = k.rest()
	case 7:
		m.Found = true
	case 8:
		m.V.Time = k.number()
		m.V.Gone = k.bytes(1) == "\x01"
		m.V.Value = k.rest()
	case 9:
		for i := k.number(); i > 0 && !k.bad; i-- {
			w := api.Write{Gone: k.bytes(1) == "\x01"}
			w.Key = k.bytes(k.number())
			w.Value = k.bytes(k.number())
			m.Writes = append(m.Writes, w)
		}
	case 10:
		m.Note = k.rest()
	case 11:
		m.Hint = k.number()
	case 12:
		m.Must = k.number()
	}
}

// answer is what Decode answers.
type answer struct {
	m       msg.Msg
	leftOut int
	e       api.Errno
}

// slowDecode is Decode as the chapter's words tell it: a field is so, if it is just what is made of what was taken of it.
// It isn't sure, if a field that is from a later version isn't so: whether that is asked where it is left out is not plain.
func slowDecode(version int, b string) (want answer, sure bool) {
	form := answer{e: api.ErrForm}
	k := &taker{s: b}
	var m msg.Msg
	var fields []row
	m.Kind = int(min(k.number(), 10))
	again := numberBytes(uint64(m.Kind))
	for k.s != "" && !k.bad {
		head := k.number()
		f := row{tag: head / 2, critical: head%2 == 1, text: k.bytes(k.number())}
		fields, again = append(fields, f), again+f.bytes()
	}
	if k.bad || again != b {
		return form, true
	}
	leftOut, critical, sure := 0, false, true
	last := uint64(0)
	for _, f := range fields {
		if f.tag <= last {
			return form, true
		}
		last = f.tag
		known, so := slowField(&m, f)
		if known > version {
			leftOut++
			critical = critical || f.critical
			sure = sure && so
		} else if !so {
			return form, true
		}
	}
	switch {
	case !slowRight(slowProject(version, m)):
		return form, true
	case critical:
		return answer{e: api.ErrCritical}, sure
	}
	return answer{m: slowProject(version, m), leftOut: leftOut}, sure
}

// slowField takes a field; it tells from which version on it is (one behind all, if it isn't), and whether it is so.
func slowField(m *msg.Msg, f row) (int, bool) {
	if f.tag > 12 {
		return 4, true
	}
	slowTake(m, f.tag, f.text)
	r := slowRows(*m)[f.tag-1]
	return r.from, !r.zero && r.critical == f.critical && r.text == f.text
}

// same tells whether two messages are; a list of no writes may be nil, or not.
func same(a, b msg.Msg) bool {
	l, k := a.Writes, b.Writes
	a.Writes, b.Writes = nil, nil
	return slices.Equal(l, k) && reflect.DeepEqual(a, b)
}

// brief is as much of some bytes as a fault is told with.
func brief(s string) string {
	return s[:min(len(s), 60)]
}

// told is a message as a fault tells it, not too long.
func told(m msg.Msg) string {
	s := fmt.Sprintf("%+v", m)
	return s[:min(len(s), 400)]
}

// checkDecodeIs holds that Decode answers just this.
func checkDecodeIs(t *testing.T, version int, b string, want answer) {
	t.Helper()
	m, n, e := msg.Decode(version, b)
	if !same(m, want.m) || n != want.leftOut || e != want.e {
		t.Errorf("Decode(%d, %x, of %d): %s, %d left out, error %d, not %s, %d, error %d", version, brief(b), len(b), told(m), n, e, told(want.m), want.leftOut, want.e)
	}
}

// checkDecode holds what Decode answers of any bytes, in each version, against what the slow one does.
func checkDecode(t *testing.T, b string) {
	t.Helper()
	for v := 1; v <= 3; v++ {
		if want, sure := slowDecode(v, b); sure {
			checkDecodeIs(t, v, b, want)
		}
	}
}

// checkForm holds that b is no message, in any version.
func checkForm(t *testing.T, b string) {
	t.Helper()
	for v := 1; v <= 3; v++ {
		checkDecodeIs(t, v, b, answer{e: api.ErrForm})
	}
}

// checkEncodeIs holds that Encode answers just this.
func checkEncodeIs(t *testing.T, version int, m msg.Msg, want string, wantE api.Errno) {
	t.Helper()
	if b, e := msg.Encode(version, m); b != want || e != wantE {
		t.Errorf("Encode(%d, %s): %x, error %d, not %x, error %d", version, told(m), brief(b), e, brief(want), wantE)
	}
}

// checkProjectIs holds that Project answers just this.
func checkProjectIs(t *testing.T, version int, m, want msg.Msg, wantE api.Errno) {
	t.Helper()
	if p, e := msg.Project(version, m); !same(p, want) || e != wantE {
		t.Errorf("Project(%d, %s): %s, error %d, not %s, error %d", version, told(m), told(p), e, told(want), wantE)
	}
}

// checkMessage holds what Encode and Project answer of any message against what the slow ones do, in each version and in none.
func checkMessage(t *testing.T, m msg.Msg) {
	t.Helper()
	for v := -1; v <= 5; v++ {
		if e := slowRefusal(v, m); e != api.OK {
			checkEncodeIs(t, v, m, "", e)
			checkProjectIs(t, v, m, msg.Msg{}, e)
			continue
		}
		checkEncodeIs(t, v, m, slowEncode(v, m), api.OK)
		checkProjectIs(t, v, m, slowProject(v, m), api.OK)
	}
}

// mustEncode are the bytes of a message in version 3.
func mustEncode(t *testing.T, m msg.Msg) string {
	t.Helper()
	b, e := msg.Encode(3, m)
	if e != api.OK {
		t.Fatalf("Encode(3, %s): error %d", told(m), e)
	}
	return b
}

// someWrites are n writes, each other one gone.
func someWrites(n int) []api.Write {
	var l []api.Write
	for i := range n {
		w := api.Write{Key: "k" + numberBytes(uint64(i)), Gone: i%2 == 1}
		if !w.Gone {
			w.Value = strings.Repeat("v", i)
		}
		l = append(l, w)
	}
	return l
}

// full is a message with every field of the table.
func full() msg.Msg {
	return msg.Msg{
		Kind: 9, From: 1, To: 2, Txn: api.Txn{Node: 3, Life: 4, Seq: 300}, A: 5, B: 6, Key: "key", Found: true,
		V: api.Version{Time: 7, Value: "val"}, Writes: []api.Write{{Key: "x", Value: "yz"}, {Key: "gone", Gone: true}},
		Note: "note", Hint: 8, Must: 9,
	}
}

// greatest is a message whose numbers are the greatest ones.
func greatest() msg.Msg {
	const n, all = 1<<31 - 1, 1<<64 - 1
	return msg.Msg{
		Kind: 9, From: n, To: n, Txn: api.Txn{Node: n, Life: n, Seq: n}, A: all, B: all, V: api.Version{Time: all, Gone: true},
		Writes: someWrites(8), Hint: all, Must: all,
	}
}

// rightMessages are messages that are right: of a kind alone, with each field alone, with all of them, with the least and the greatest.
func rightMessages() []msg.Msg {
	var l []msg.Msg
	for kind := 1; kind <= 9; kind++ {
		l = append(l, msg.Msg{Kind: kind})
	}
	const n, all = 1<<31 - 1, 1<<64 - 1
	for _, i := range []int{1, 127, 128, 300, 1 << 14, n - 1, n} {
		l = append(l, msg.Msg{Kind: 1, From: i}, msg.Msg{Kind: 1, To: i}, msg.Msg{Kind: 2, Txn: api.Txn{Node: i}},
			msg.Msg{Kind: 2, Txn: api.Txn{Life: i}}, msg.Msg{Kind: 2, Txn: api.Txn{Seq: i}})
	}
	for _, i := range []uint64{1, 127, 128, n, n + 1, 1 << 32, 1<<63 - 1, 1 << 63, all - 1, all} {
		l = append(l, msg.Msg{Kind: 3, A: i}, msg.Msg{Kind: 3, B: i}, msg.Msg{Kind: 4, V: api.Version{Time: i}},
			msg.Msg{Kind: 5, Hint: i}, msg.Msg{Kind: 6, Must: i}, msg.Msg{Kind: 7, Hint: i, Must: i})
	}
	for _, s := range []string{"a", "\x00", "\x01", "\xff\xfe", "ä", strings.Repeat("s", 127), strings.Repeat("s", 128), strings.Repeat("long", 900)} {
		l = append(l, msg.Msg{Kind: 8, Key: s}, msg.Msg{Kind: 8, V: api.Version{Value: s}}, msg.Msg{Kind: 8, V: api.Version{Time: 5, Value: s}},
			msg.Msg{Kind: 8, Note: s}, msg.Msg{Kind: 8, Writes: []api.Write{{Key: s}}}, msg.Msg{Kind: 8, Writes: []api.Write{{Value: s}}},
			msg.Msg{Kind: 8, Writes: []api.Write{{Key: s, Gone: true}}})
	}
	for n := range 9 {
		l = append(l, msg.Msg{Kind: 9, Writes: someWrites(n)}, msg.Msg{Kind: 9, Writes: make([]api.Write, n)})
	}
	twice := []api.Write{{Key: "k", Value: "1"}, {Key: "k", Value: "2"}, {Key: "k", Gone: true}}
	return append(l, msg.Msg{Kind: 1, Found: true}, msg.Msg{Kind: 1, V: api.Version{Gone: true}}, msg.Msg{Kind: 1, V: api.Version{Time: 9, Gone: true}},
		msg.Msg{Kind: 1, Writes: twice}, full(), greatest(), slowProject(2, full()), slowProject(1, full()), slowProject(2, greatest()))
}

// wrongMessages are messages that aren't right, each in one way; these have the critical field, too.
func wrongMessages() []msg.Msg {
	var l []msg.Msg
	spoil := func(change func(m *msg.Msg)) {
		for _, m := range []msg.Msg{{Kind: 1}, full(), slowProject(2, full())} {
			change(&m)
			l = append(l, m)
		}
	}
	for _, n := range []int{0, 10, 11, 128, 256, 257, -1, -9, math.MinInt, math.MaxInt, 1<<32 + 1} {
		spoil(func(m *msg.Msg) { m.Kind = n })
	}
	for _, n := range []int{-1, -2, -1 << 31, math.MinInt, 1 << 31, 1<<31 + 1, 1 << 32, 1<<32 + 1, math.MaxInt} {
		spoil(func(m *msg.Msg) { m.From = n })
		spoil(func(m *msg.Msg) { m.To = n })
		spoil(func(m *msg.Msg) { m.Txn.Node = n })
		spoil(func(m *msg.Msg) { m.Txn.Life = n })
		spoil(func(m *msg.Msg) { m.Txn.Seq = n })
	}
	for _, s := range []string{"v", "\x00", strings.Repeat("v", 500)} {
		spoil(func(m *msg.Msg) { m.V = api.Version{Gone: true, Value: s} })
		spoil(func(m *msg.Msg) { m.V = api.Version{Time: 1, Gone: true, Value: s} })
		spoil(func(m *msg.Msg) { m.Writes = []api.Write{{Key: "k", Gone: true, Value: s}} })
		spoil(func(m *msg.Msg) { m.Writes = append(someWrites(7), api.Write{Key: "k", Gone: true, Value: s}) })
	}
	for _, n := range []int{9, 10, 16, 256, 257} {
		spoil(func(m *msg.Msg) { m.Writes = someWrites(n) })
		spoil(func(m *msg.Msg) { m.Writes = make([]api.Write, n) })
	}
	for _, n := range []int{4000, 4001, 65536, 1 << 20} {
		spoil(func(m *msg.Msg) { m.Key = strings.Repeat("k", n) })
		spoil(func(m *msg.Msg) { m.V.Value = strings.Repeat("v", n) })
		spoil(func(m *msg.Msg) { m.Note = strings.Repeat("n", n) })
		spoil(func(m *msg.Msg) { m.Writes = []api.Write{{Key: strings.Repeat("k", n)}} })
		spoil(func(m *msg.Msg) { m.Writes = []api.Write{{Key: "k", Value: strings.Repeat("v", n)}} })
	}
	return l
}

// randomText are n random bytes, of few values.
func randomText(r *rand.Rand, n int) string {
	b := make([]byte, n)
	for i := range b {
		b[i] = "\x00\x01\x02\x0c\x18ab\x80\xff"[r.IntN(9)]
	}
	return string(b)
}

// randomMessage is a message that is right, with about each other field, or few of them.
func randomMessage(r *rand.Rand) msg.Msg {
	few := 2 + r.IntN(4)
	number := func() uint64 {
		if r.IntN(few) > 0 {
			return 0
		}
		return r.Uint64() >> r.IntN(64)
	}
	text := func() string {
		if r.IntN(few) > 0 {
			return ""
		}
		return randomText(r, r.IntN(9))
	}
	m := msg.Msg{
		Kind: 1 + r.IntN(9), From: int(number() >> 33), To: int(number() >> 33), A: number(), B: number(), Key: text(), Found: r.IntN(few) == 0,
		Txn: api.Txn{Node: int(number() >> 33), Life: int(number() >> 33), Seq: int(number() >> 33)},
		V:   api.Version{Time: number(), Value: text(), Gone: r.IntN(few) == 0}, Note: text(), Hint: number(), Must: number(),
	}
	if m.V.Gone {
		m.V.Value = ""
	}
	if r.IntN(few) == 0 {
		m.Writes = someWrites(r.IntN(9))
	}
	return m
}
