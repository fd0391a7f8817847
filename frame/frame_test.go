package frame_test

import (
	"strings"
	"testing"

	"isogloss/api"
	"isogloss/crc"
	"isogloss/frame"
)

// checkMake holds that Make answers just this.
func checkMake(t *testing.T, table crc.Table, payload, want string, wantE api.Errno) {
	t.Helper()
	if f, e := frame.Make(table, payload); f != want || e != wantE {
		t.Errorf("Make(%x, of %d): %x, of %d, error %d, not %x, error %d", brief(payload), len(payload), brief(f), len(f), e, brief(want), wantE)
	}
}

// P6.1: frames that stand written out, the chapter's among them.
func TestMakeWrittenOut(t *testing.T) {
	table := crc.Make()
	checkMake(t, table, "a", "\x00\x00\x00\x01\xc1\xd0\x43\x30a", api.OK)
	checkMake(t, table, "\x00", "\x00\x00\x00\x01\x52\x7d\x53\x51\x00", api.OK)
	checkMake(t, table, "123456789", "\x00\x00\x00\x09\xe3\x06\x92\x83123456789", api.OK)
	zeros := strings.Repeat("\x00", 32)
	checkMake(t, table, zeros, "\x00\x00\x00\x20\x8a\x91\x36\xaa"+zeros, api.OK)
}

// P6.1: a frame has the payload's length, its sum, and it, from one byte to MaxMessage.
func TestMakeOfMany(t *testing.T) {
	table := crc.Make()
	for _, p := range payloads() {
		checkMake(t, table, p, slowFrame(p), api.OK)
	}
	for n := 1; n <= api.MaxMessage; n += 13 {
		p := strings.Repeat("x", n)
		checkMake(t, table, p, slowFrame(p), api.OK)
	}
}

// P6.1: of all bytes that stand alone.
func TestMakeOfEachByte(t *testing.T) {
	table := crc.Make()
	for i := range 256 {
		p := string([]byte{byte(i)})
		checkMake(t, table, p, slowFrame(p), api.OK)
	}
}

// P6.1: there is no frame of no bytes, nor of more than MaxMessage.
func TestMakeTooLong(t *testing.T) {
	table := crc.Make()
	checkMake(t, table, "", "", api.ErrLong)
	for _, p := range tooLong() {
		checkMake(t, table, p, "", api.ErrLong)
	}
	most := strings.Repeat("m", api.MaxMessage)
	checkMake(t, table, most, "\x00\x00\x0f\xa0"+four(slowSum(most))+most, api.OK)
}

// otherTables are tables that aren't Make's: of zeros, one that counts, and Make's with one place changed.
func otherTables() []crc.Table {
	var none, counted crc.Table
	for i := range counted {
		counted[i] = uint32(i) * 0x01030507
	}
	changed := crc.Make()
	changed['a'^0xff]++
	return []crc.Table{none, counted, changed}
}

// P6.1: the sum is made with the table that is handed on, none that is kept.
func TestMakeHandsTheTableOn(t *testing.T) {
	for _, table := range otherTables() {
		for _, p := range payloads() {
			checkMake(t, table, p, four(uint32(len(p)))+four(crc.Sum(table, p))+p, api.OK)
		}
		checkMake(t, table, "", "", api.ErrLong)
		checkMake(t, crc.Make(), "a", "\x00\x00\x00\x01\xc1\xd0\x43\x30a", api.OK)
	}
}
