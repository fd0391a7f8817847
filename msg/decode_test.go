package msg_test

import (
	"encoding/binary"
	"math/rand/v2"
	"strings"
	"testing"

	"isogloss/api"
	"isogloss/msg"
)

// fieldBytes are the bytes of a field that isn't critical.
func fieldBytes(tag uint64, text string) string {
	return row{tag: tag, text: text}.bytes()
}

// criticalBytes are the bytes of a critical field.
func criticalBytes(tag uint64, text string) string {
	return row{tag: tag, critical: true, text: text}.bytes()
}

// P5.1: messages whose bytes are written out.
func TestDecodeWrittenOut(t *testing.T) {
	for _, c := range writtenOut() {
		checkDecodeIs(t, 3, c.b, answer{m: c.m})
		checkDecode(t, c.b)
	}
}

// P5.1: what the version hasn't is left out, and counted; what is critical there is ErrCritical.
func TestDecodeInEachVersion(t *testing.T) {
	m := full()
	m.Must = 0
	b := fullBytes + noteBytes + hintBytes
	checkDecodeIs(t, 3, b, answer{m: m})
	checkDecodeIs(t, 2, b, answer{m: slowProject(2, m), leftOut: 1})
	checkDecodeIs(t, 1, b, answer{m: slowProject(1, m), leftOut: 2})
	checkDecodeIs(t, 2, fullBytes+noteBytes, answer{m: slowProject(2, m)})
	checkDecodeIs(t, 1, fullBytes+noteBytes, answer{m: slowProject(1, m), leftOut: 1})
	checkDecodeIs(t, 1, fullBytes+hintBytes, answer{m: slowProject(1, m), leftOut: 1})
	for v := 1; v <= 3; v++ {
		checkDecodeIs(t, v, fullBytes, answer{m: slowProject(1, m)})
		checkDecodeIs(t, v, "\x01", answer{m: msg.Msg{Kind: 1}})
	}
	for _, b := range []string{fullBytes + mustBytes, fullBytes + noteBytes + hintBytes + mustBytes, "\x01" + mustBytes, "\x01" + noteBytes + mustBytes} {
		checkDecodeIs(t, 1, b, answer{e: api.ErrCritical})
		checkDecodeIs(t, 2, b, answer{e: api.ErrCritical})
		checkDecode(t, b)
	}
	checkDecodeIs(t, 3, "\x01"+mustBytes, answer{m: msg.Msg{Kind: 1, Must: 9}})
}

// P5.1: fields of tags that no version has are left out, and counted; among them, and behind those that it has.
func TestDecodeUnknownTags(t *testing.T) {
	for _, tag := range []uint64{13, 14, 15, 63, 64, 127, 128, 1 << 31, 1<<32 + 1, 1<<32 + 6, 1<<63 - 1} {
		for _, text := range []string{"", "\x00", "a", "\x80", strings.Repeat("t", 200)} {
			one := fieldBytes(tag, text)
			for v := 1; v <= 3; v++ {
				checkDecodeIs(t, v, "\x01"+one, answer{m: msg.Msg{Kind: 1}, leftOut: 1})
				checkDecodeIs(t, v, "\x01\x0c\x01a"+one, answer{m: msg.Msg{Kind: 1, Key: "a"}, leftOut: 1})
				checkDecodeIs(t, v, "\x01"+criticalBytes(tag, text), answer{e: api.ErrCritical})
				checkDecodeIs(t, v, "\x01\x0c\x01a"+criticalBytes(tag, text), answer{e: api.ErrCritical})
			}
			checkDecodeIs(t, 3, fullBytes+noteBytes+hintBytes+mustBytes+one, answer{m: full(), leftOut: 1})
			checkDecode(t, fullBytes+noteBytes+hintBytes+one)
		}
	}
	three := fieldBytes(13, "x") + fieldBytes(20, "") + fieldBytes(1000, "yz")
	first := slowProject(1, full())
	checkDecodeIs(t, 1, fullBytes+noteBytes+hintBytes+three, answer{m: first, leftOut: 5})
	checkDecodeIs(t, 2, fullBytes+hintBytes+three, answer{m: first, leftOut: 4})
	checkDecodeIs(t, 3, fullBytes+three, answer{m: first, leftOut: 3})
	for v := 1; v <= 3; v++ {
		checkDecodeIs(t, v, "\x01"+fieldBytes(13, "")+criticalBytes(14, "")+fieldBytes(15, ""), answer{e: api.ErrCritical})
		checkDecodeIs(t, v, "\x01"+criticalBytes(13, "")+fieldBytes(14, "")+fieldBytes(15, ""), answer{e: api.ErrCritical})
		checkDecodeIs(t, v, "\x01"+fieldBytes(13, "")+fieldBytes(14, "")+criticalBytes(15, ""), answer{e: api.ErrCritical})
	}
}

// P5.1: of many fields that are left out each one counts.
func TestDecodeManyUnknownTags(t *testing.T) {
	b := "\x01"
	n := 0
	for tag := uint64(13); len(b)+len(fieldBytes(tag, "")) <= 4000; tag++ {
		b += fieldBytes(tag, "")
		n++
	}
	for v := 1; v <= 3; v++ {
		checkDecodeIs(t, v, b, answer{m: msg.Msg{Kind: 1}, leftOut: n})
	}
}

// P5.1: kinds that are none, and bytes that begin with none.
func TestDecodeKinds(t *testing.T) {
	for kind := uint64(1); kind <= 9; kind++ {
		for v := 1; v <= 3; v++ {
			checkDecodeIs(t, v, numberBytes(kind), answer{m: msg.Msg{Kind: int(kind)}})
		}
	}
	for _, kind := range []uint64{0, 10, 11, 127, 128, 256, 257, 1<<31 - 1, 1<<31 + 1, 1 << 32, 1<<32 + 1, 1<<63 + 1, 1<<64 - 1} {
		for _, rest := range []string{"", "\x0c\x01a", criticalBytes(13, "")} {
			checkForm(t, numberBytes(kind)+rest)
		}
	}
	nine := strings.Repeat("\xff", 9)
	for _, s := range []string{"", "\x80", "\x81\x00", "\x80\x00", nine, nine + "\x02", nine + "\x80\x01"} {
		checkForm(t, s)
		checkForm(t, s+"\x0c\x01a")
	}
}

// P5.1: tags that fall, or come twice, and a tag of 0.
func TestDecodeTags(t *testing.T) {
	for _, s := range []string{
		"\x00\x00", "\x01\x00", "\x00\x01a", "\x00\x00\x0c\x01a", "\x0c\x01a\x00\x00", "\x0c\x01a\x01\x00",
		"\x0c\x01a\x0c\x01a", "\x0c\x01a\x0c\x01b", "\x0c\x01a\x0a\x01\x01", "\x04\x01\x01\x02\x01\x01", "\x0e\x00\x0e\x00",
		"\x02\x01\x01\x0c\x01a\x08\x01\x01", noteBytes + "\x0c\x01a", noteBytes + noteBytes, mustBytes + hintBytes, mustBytes + mustBytes,
		fieldBytes(13, "") + "\x0c\x01a", fieldBytes(13, "") + noteBytes, fieldBytes(13, "") + fieldBytes(13, ""), fieldBytes(14, "") + fieldBytes(13, ""),
		fieldBytes(13, "") + criticalBytes(13, ""), criticalBytes(13, "") + fieldBytes(13, ""), criticalBytes(14, "") + fieldBytes(13, ""),
		fieldBytes(1<<63-1, "") + fieldBytes(1, "\x01"), fieldBytes(1<<32+5, "") + fieldBytes(6, "a"), fieldBytes(1<<63-1, "") + criticalBytes(1<<63-1, ""),
	} {
		checkForm(t, "\x01"+s)
	}
}

// P5.1: a field that is zero.
func TestDecodeZeroFields(t *testing.T) {
	for _, s := range []string{
		"\x02\x01\x00", "\x04\x01\x00", "\x06\x03\x00\x00\x00", "\x08\x01\x00", "\x0a\x01\x00", "\x0c\x00", "\x10\x02\x00\x00", "\x12\x01\x00",
	} {
		checkForm(t, "\x01"+s)
		checkForm(t, "\x01"+s+noteBytes)
		checkForm(t, "\x01"+s+criticalBytes(13, ""))
	}
	checkDecodeIs(t, 2, "\x01\x14\x00", answer{e: api.ErrForm})
	for _, s := range []string{"\x14\x00", "\x16\x01\x00", "\x19\x01\x00"} {
		checkDecodeIs(t, 3, "\x01"+s, answer{e: api.ErrForm})
		checkDecodeIs(t, 3, "\x01\x0c\x01a"+s, answer{e: api.ErrForm})
	}
}

// P5.1: a field that is critical where the table says not, and the other way round.
func TestDecodeCriticalOrNot(t *testing.T) {
	for _, r := range slowRows(full()) {
		wrong := r
		wrong.critical = !r.critical
		for v := r.from; v <= 3; v++ {
			checkDecodeIs(t, v, "\x01"+r.bytes(), answer{m: decodedOne(r)})
			checkDecodeIs(t, v, "\x01"+wrong.bytes(), answer{e: api.ErrForm})
			checkDecodeIs(t, v, "\x01"+wrong.bytes()+criticalBytes(13, ""), answer{e: api.ErrForm})
		}
	}
}

// decodedOne is the message of kind 1 that has just this field.
func decodedOne(r row) msg.Msg {
	m := msg.Msg{Kind: 1}
	slowTake(&m, r.tag, r.text)
	return m
}

// checkFieldForm holds that a field with this text isn't so, in each version that has it.
func checkFieldForm(t *testing.T, tag uint64, text string) {
	t.Helper()
	r := slowRows(msg.Msg{})[tag-1]
	r.text = text
	for v := r.from; v <= 3; v++ {
		checkDecodeIs(t, v, "\x01"+r.bytes(), answer{e: api.ErrForm})
	}
}

// P5.1: numbers in more bytes than they need, too great ones, missing ones, and such as have something behind them.
func TestDecodeNumbers(t *testing.T) {
	nine := strings.Repeat("\xff", 9)
	for _, s := range []string{"", "\x80", "\x81\x00", "\x80\x00", "\x01\x00", "\x01\x01", "\x01a", nine, nine + "\x02", nine + "\x81\x00", nine + "\x01\x00"} {
		for _, tag := range []uint64{1, 2, 4, 5, 11, 12} {
			checkFieldForm(t, tag, s)
		}
		checkFieldForm(t, 3, s)
		checkFieldForm(t, 3, "\x01\x01\x01"+s+"\x00")
	}
	for _, n := range []uint64{1 << 31, 1<<31 + 1, 1 << 32, 1<<32 + 1, 1<<63 - 1, 1 << 63, 1<<63 + 1, 1<<64 - 1} {
		b := numberBytes(n)
		for _, tag := range []uint64{1, 2} {
			checkFieldForm(t, tag, b)
		}
		for _, s := range []string{b + "\x00\x00", b + "\x01\x01", "\x00" + b + "\x00", "\x01" + b + "\x01", "\x00\x00" + b, "\x01\x01" + b} {
			checkFieldForm(t, 3, s)
		}
		for _, tag := range []uint64{4, 5, 11, 12} {
			r := slowRows(msg.Msg{})[tag-1]
			r.text = b
			checkDecodeIs(t, 3, "\x01"+r.bytes(), answer{m: decodedOne(r)})
		}
	}
	for _, s := range []string{"", "\x01", "\x01\x02", "\x01\x02\x03\x04", "\x01\x02\x03\x00", "\x81\x00\x02\x03", "\x01\x82\x00\x03", "\x01\x02\x83\x00", "\x01\x02\x83"} {
		checkFieldForm(t, 3, s)
	}
}

// P5.1: Found has nothing.
func TestDecodeFound(t *testing.T) {
	for _, s := range []string{"\x00", "\x01", "a", "\x00\x00"} {
		checkFieldForm(t, 7, s)
	}
}

// P5.1: a version of a key that is cut short, or tells neither that it is gone nor that it isn't, or is gone with a value.
func TestDecodeVersionOfKey(t *testing.T) {
	for _, s := range []string{"", "\x00", "\x05", "\x80\x00\x00", "\x85\x00\x00v", "\x80", "\x05\x01v", "\x00\x01v", "\x05\x01\x00", "\x05\x01\x01"} {
		checkFieldForm(t, 8, s)
	}
	for b := 2; b < 256; b++ {
		for _, value := range []string{"", "v"} {
			checkFieldForm(t, 8, "\x05"+string([]byte{byte(b)})+value)
		}
	}
}

// P5.1: writes that are cut short, more or fewer than are told, too many, and such as are gone with a value.
func TestDecodeWrites(t *testing.T) {
	const one = "\x00\x01k\x01v"
	for _, s := range []string{
		"", "\x00", "\x00" + one, "\x01", "\x01" + one + "\x00", "\x02" + one, "\x01" + one + one, "\x81\x00" + one, "\x80",
		"\x01\x00", "\x01\x00\x01", "\x01\x00\x01k", "\x01\x00\x02k\x00", "\x01\x00\x01k\x02v", "\x01\x00\x81\x00k\x01v", "\x01\x00\x01k\x81\x00v",
		"\x01\x01\x01k\x01v", "\x02" + one + "\x01\x01k\x01v", "\x02\x01\x01k\x01v" + one, "\x01\x01\x00\x01\x00",
		"\x09" + strings.Repeat(one, 9), "\x09" + strings.Repeat("\x00\x00\x00", 9), "\x08" + strings.Repeat(one, 9), "\x09" + strings.Repeat(one, 8),
		"\x0a" + strings.Repeat(one, 10), "\x0a" + strings.Repeat(one, 9), "\x80\x01" + strings.Repeat(one, 128), "\x88\x02" + strings.Repeat(one, 8),
		numberBytes(1<<31) + one, numberBytes(1<<32+1) + one, numberBytes(1<<63) + one, numberBytes(1<<63+1) + one, numberBytes(1<<64-1) + one,
		"\x01\x00" + numberBytes(1<<63) + "k\x01v", "\x01\x00" + numberBytes(1<<64-1) + "k\x01v", "\x01\x00\x01k" + numberBytes(1<<64-1) + "v",
	} {
		checkFieldForm(t, 9, s)
	}
	for b := 2; b < 256; b++ {
		gone := string([]byte{byte(b)})
		checkFieldForm(t, 9, "\x01"+gone+"\x01k\x00")
		checkFieldForm(t, 9, "\x01"+gone+"\x01k\x01v")
		checkFieldForm(t, 9, "\x02"+one+gone+"\x01k\x00")
	}
	checkDecodeIs(t, 1, "\x01"+fieldBytes(9, "\x08"+strings.Repeat(one, 8)), answer{m: decodedOne(row{tag: 9, text: "\x08" + strings.Repeat(one, 8)})})
}

// P5.1: a text that is cut short, or whose length, or whose tag, is in more bytes than it needs.
func TestDecodeTexts(t *testing.T) {
	for _, s := range []string{
		"\x0c", "\x0c\x01", "\x0c\x02a", "\x0c\x80", "\x0c\x81\x00a", "\x8c\x00\x01a", "\x8c", "\x0c\x7fabc",
		"\x0c" + numberBytes(1<<32+1) + "a", "\x0c" + numberBytes(1<<63) + "a", "\x0c" + numberBytes(1<<64-1) + "a",
		"\x1a", "\x1a\x01", "\x1b", "\x1b\x02a", "\x9a\x00\x00", "\x0c\x01a\x1a", "\x0c\x01a\x1b\x01", "\x1a\x80\x00", "\x1b\x81\x00a",
		strings.Repeat("\xff", 9) + "\x02\x00", strings.Repeat("\xff", 9) + "\x81\x00\x00",
	} {
		checkForm(t, "\x01"+s)
	}
}

// P5.1: ErrLong of more than MaxMessage bytes, whatever they are; just so many are a message, or not.
func TestDecodeTooLong(t *testing.T) {
	long := func(n int) []string {
		unknown := "\x01" + fieldBytes(13, strings.Repeat("u", n-4))
		return []string{
			"\x01\x0c" + textBytes(strings.Repeat("k", n-4)), unknown, "\x01\x1b" + unknown[2:], strings.Repeat("\x00", n), strings.Repeat("\xff", n), strings.Repeat("\x01", n),
		}
	}
	for v := 1; v <= 3; v++ {
		for _, n := range []int{4001, 4002, 4096, 65536, 1 << 20} {
			for _, b := range long(n) {
				checkDecodeIs(t, v, b, answer{e: api.ErrLong})
			}
		}
		l := long(4000)
		checkDecodeIs(t, v, l[0], answer{m: msg.Msg{Kind: 1, Key: strings.Repeat("k", 3996)}})
		checkDecodeIs(t, v, l[1], answer{m: msg.Msg{Kind: 1}, leftOut: 1})
		checkDecodeIs(t, v, l[2], answer{e: api.ErrCritical})
		checkForm(t, l[3])
	}
}

// P5.1: ErrForm goes ahead of ErrCritical, wherever the critical field stands.
func TestDecodeOrderOfErrors(t *testing.T) {
	critical := criticalBytes(13, "c")
	for _, s := range []string{
		critical + "\x1c", critical + "\x1c\x02a", critical + fieldBytes(13, "c"), critical + fieldBytes(12, "\x01"),
		critical + "\x00\x00", critical + "\x00", critical + critical,
		"\x02\x01\x00" + critical, "\x06\x01\x01" + critical, "\x0d\x01a" + critical, "\x10\x03\x01\x01v" + critical, "\x10\x02\x05\x02" + critical,
		"\x02" + textBytes(numberBytes(1<<31)) + critical, "\x12\x06\x01\x01\x01k\x01v" + critical, "\x12\x01\x00" + critical,
		fieldBytes(9, "\x09"+strings.Repeat("\x00\x00\x00", 9)) + critical, critical + criticalBytes(14, "") + "\x1e",
	} {
		checkForm(t, "\x01"+s)
	}
	for _, kind := range []string{"\x00", "\x0a", "\x81\x00"} {
		checkForm(t, kind+critical)
		checkForm(t, kind+mustBytes)
	}
	for v := 1; v <= 2; v++ {
		checkDecodeIs(t, v, "\x01"+mustBytes+"\x0c\x01a", answer{e: api.ErrForm})
		checkDecodeIs(t, v, "\x01"+mustBytes+"\x1a", answer{e: api.ErrForm})
		checkDecodeIs(t, v, "\x01\x0c\x00"+mustBytes, answer{e: api.ErrForm})
		checkDecodeIs(t, v, "\x01\x0c\x01a"+mustBytes, answer{e: api.ErrCritical})
	}
}

// wellFormed are the bytes of messages that are right, not of too long ones, and of such with fields that no version has.
func wellFormed() []string {
	l := []string{
		"\x01" + fieldBytes(13, "ab"), "\x02" + criticalBytes(13, ""),
		fullBytes + noteBytes + hintBytes + mustBytes + fieldBytes(14, "\x01") + fieldBytes(1<<20, ""),
	}
	for _, m := range rightMessages() {
		if b := slowEncode(3, m); len(b) < 250 {
			l = append(l, b)
		}
	}
	return l
}

// P5.1: bytes of messages that are cut short at every place, or have one byte more behind, or are there twice.
func TestDecodeCutShortOrLonger(t *testing.T) {
	for _, b := range wellFormed() {
		checkDecode(t, b)
		for i := range len(b) {
			checkDecode(t, b[:i])
		}
		for i := range 256 {
			checkForm(t, b+string([]byte{byte(i)}))
		}
		checkDecode(t, b+b)
		checkDecode(t, b+b[1:])
	}
	b := fieldBytes(8, "\x07\x00val")
	for i := 1; i < len(b); i++ {
		checkForm(t, "\x01"+b[:i])
	}
}

// P5.1: bytes of messages of which any one is turned into another.
func TestDecodeOneByteTurned(t *testing.T) {
	l := wellFormed()[:3]
	for _, c := range writtenOut() {
		l = append(l, c.b)
	}
	for _, b := range l {
		step := byte(1)
		if len(b) > 40 {
			step = 15 // of the long ones some of the others are enough
		}
		for i := range len(b) {
			turned := []byte(b)
			for range 255 / step {
				turned[i] += step
				checkDecode(t, string(turned))
			}
		}
	}
}

// P5.1: all bytes of up to two, and many of up to five behind a kind, of which messages are made.
func TestDecodeShort(t *testing.T) {
	checkDecode(t, "")
	for i := range 256 {
		checkDecode(t, string([]byte{byte(i)}))
		for j := range 256 {
			checkDecode(t, string([]byte{byte(i), byte(j)}))
			checkDecode(t, string([]byte{1, byte(i), byte(j)}))
		}
	}
	const alphabet = "\x00\x01\x02\x03\x0c\x10\x1b"
	var grow func(b string)
	grow = func(b string) {
		checkDecode(t, "\x01"+b)
		if len(b) == 5 {
			return
		}
		for i := range len(alphabet) {
			grow(b + alphabet[i:i+1])
		}
	}
	grow("")
}

// randomBytes are fields put one behind the other, of which most are so, and some aren't.
func randomBytes(r *rand.Rand) string {
	b := numberBytes(uint64(1 + r.IntN(10)))
	tag := uint64(0)
	for range r.IntN(6) {
		tag += uint64(1 + r.IntN(4) - r.IntN(40)/39)
		f := row{tag: tag, critical: tag == 12, text: randomText(r, r.IntN(6))}
		if r.IntN(3) > 0 && 0 < tag && tag <= 12 {
			f = slowRows(randomMessage(r))[tag-1]
		}
		if r.IntN(20) == 0 {
			f.critical = !f.critical
		}
		b += f.bytes()
	}
	return b
}

// P5.1: random bytes, and messages' bytes with some of them turned.
func TestDecodeRandom(t *testing.T) {
	r := rand.New(rand.NewPCG(5, 2))
	for range 10000 {
		checkDecode(t, randomText(r, r.IntN(20)))
		checkDecode(t, randomBytes(r))
		b := []byte(slowEncode(3, randomMessage(r)))
		for range 1 + r.IntN(3) {
			b[r.IntN(len(b))] = byte(r.IntN(256) >> r.IntN(8))
		}
		checkDecode(t, string(b))
	}
}

// checkComesAgain holds that what is encoded in a version, and decoded in one up to it, is projected.
func checkComesAgain(t *testing.T, m msg.Msg) {
	t.Helper()
	for w := 1; w <= 3; w++ {
		b, e := msg.Encode(w, m)
		if e != api.OK {
			continue
		}
		for v := 1; v <= w; v++ {
			p, pe := msg.Project(v, m)
			leftOut := 0
			for _, r := range slowRows(m) {
				if pe == api.OK && !r.zero && v < r.from && r.from <= w {
					leftOut++
				}
			}
			checkDecodeIs(t, v, b, answer{m: p, leftOut: leftOut, e: pe})
		}
		for v := w; v <= 3; v++ {
			p, _ := msg.Project(w, m)
			checkDecodeIs(t, v, b, answer{m: p})
		}
	}
}

// P5.3: Decode(v, Encode(w, m)) is Project(v, m), for v up to w.
func TestComesAgain(t *testing.T) {
	l := rightMessages()
	r := rand.New(rand.NewPCG(5, 3))
	for range 2000 {
		l = append(l, randomMessage(r))
	}
	for _, m := range append(l, longMessages(4000)...) {
		checkComesAgain(t, m)
		m.Must = 0
		checkComesAgain(t, m)
	}
}

// P5.3: what is decoded with nothing left out has just these bytes.
func TestHasJustTheseBytes(t *testing.T) {
	r := rand.New(rand.NewPCG(5, 4))
	l := wellFormed()
	for range 20000 {
		l = append(l, randomBytes(r))
	}
	times := 0
	for _, b := range l {
		for v := 1; v <= 3; v++ {
			m, n, e := msg.Decode(v, b)
			if n > 0 || e != api.OK {
				continue
			}
			times++
			checkEncodeIs(t, v, m, b, api.OK)
		}
	}
	if times < 1000 {
		t.Errorf("only %d of these were messages", times)
	}
}

// P5.1: numbers of as many bits as there are.
func TestDecodeEachBit(t *testing.T) {
	for i := range 64 {
		n := uint64(1) << i
		b := string(binary.AppendUvarint(nil, n))
		checkDecodeIs(t, 1, "\x01"+fieldBytes(4, b), answer{m: msg.Msg{Kind: 1, A: n}})
		checkDecodeIs(t, 1, "\x01"+fieldBytes(8, b+"\x01"), answer{m: msg.Msg{Kind: 1, V: api.Version{Time: n, Gone: true}}})
		if i < 31 {
			checkDecodeIs(t, 1, "\x01"+fieldBytes(1, b), answer{m: msg.Msg{Kind: 1, From: int(n)}})
		} else {
			checkFieldForm(t, 1, b)
		}
	}
}
