package frame_test

import (
	"encoding/binary"
	"hash/crc32"
	"math/rand/v2"
	"slices"
	"strconv"
	"strings"
	"testing"

	"isogloss/api"
	"isogloss/crc"
	"isogloss/frame"
)

// four are a number's four bytes, the greatest first, as the library makes them.
func four(n uint32) string {
	return string(binary.BigEndian.AppendUint32(nil, n))
}

// slowSum is the sum of some bytes, as the library makes it.
func slowSum(payload string) uint32 {
	return crc32.Checksum([]byte(payload), crc32.MakeTable(crc32.Castagnoli))
}

// slowFrame is the frame of a payload, however many bytes it has.
func slowFrame(payload string) string {
	return four(uint32(len(payload))) + four(slowSum(payload)) + payload
}

// framed are the frames of payloads, one behind the other.
func framed(payloads ...string) string {
	s := ""
	for _, p := range payloads {
		s += slowFrame(p)
	}
	return s
}

// outcome is what a splitter tells of a stream: its payloads, and what stands behind them.
type outcome struct {
	payloads []string
	broken   bool
	waiting  int
}

// slowSplit is what a stream is, as the chapter's words tell it, looked through from its beginning.
func slowSplit(stream string) outcome {
	var o outcome
	for {
		o.waiting = len(stream)
		if len(stream) < 4 {
			return o
		}
		n := binary.BigEndian.Uint32([]byte(stream))
		if n < 1 || n > 4000 {
			return outcome{payloads: o.payloads, broken: true}
		}
		if uint64(len(stream)) < 8+uint64(n) {
			return o
		}
		payload := stream[8 : 8+n]
		if slowFrame(payload) != stream[:8+n] {
			return outcome{payloads: o.payloads, broken: true}
		}
		o.payloads = append(o.payloads, payload)
		stream = stream[8+n:]
	}
}

// brief is as much of some bytes as a fault is told with.
func brief(s string) string {
	return s[:min(len(s), 40)]
}

// briefly are some payloads as a fault tells them.
func briefly(l []string) string {
	var s []string
	for _, p := range l[:min(len(l), 6)] {
		s = append(s, brief(p))
	}
	return strings.Join(s, " | ")
}

// tell are all payloads that a splitter tells now; behind them it tells nothing, however often it is asked.
func tell(t *testing.T, s *frame.Splitter) []string {
	t.Helper()
	var l []string
	for {
		p, ok := s.Next()
		if !ok {
			if again, more := s.Next(); p != "" || again != "" || more {
				t.Errorf("none was told as %x, and then %x, %v", brief(p), brief(again), more)
			}
			return l
		}
		l = append(l, p)
	}
}

// checkTold holds that a splitter tells just these payloads now.
func checkTold(t *testing.T, what string, s *frame.Splitter, want ...string) {
	t.Helper()
	if got := tell(t, s); !slices.Equal(got, want) {
		t.Errorf("%s: told %d payloads %x, not %d %x", what, len(got), briefly(got), len(want), briefly(want))
	}
}

// checkState holds what a splitter tells of itself against what it should.
func checkState(t *testing.T, what string, s *frame.Splitter, broken bool, waiting int) {
	t.Helper()
	if s.Broken() != broken || s.Waiting() != waiting {
		t.Errorf("%s: broken %v, waiting %d, not %v, %d", what, s.Broken(), s.Waiting(), broken, waiting)
	}
}

// fed is a new splitter of Make's table, fed with these chunks.
func fed(chunks ...string) *frame.Splitter {
	s := frame.New(crc.Make())
	for _, c := range chunks {
		s.Feed(c)
	}
	return s
}

// checkStream holds what a stream is that came in these chunks, asked in the end, against what it should be; then that it stays so, if it is broken.
func checkStream(t *testing.T, what string, want outcome, chunks ...string) {
	t.Helper()
	s := fed(chunks...)
	checkState(t, what, s, want.broken, want.waiting)
	checkTold(t, what, s, want.payloads...)
	checkState(t, what+", told", s, want.broken, want.waiting)
	if want.broken {
		checkStaysBroken(t, what, s)
	}
}

// checkStaysBroken feeds a broken splitter, of which all was told, with what would be told by another one.
func checkStaysBroken(t *testing.T, what string, s *frame.Splitter) {
	t.Helper()
	for _, b := range []string{"", "\x00", slowFrame("a"), framed("b", "c"), four(0), four(1), strings.Repeat("\x00", 5000)} {
		s.Feed(b)
		checkState(t, what+", fed more", s, true, 0)
		checkTold(t, what+", fed more", s)
	}
}

// checkEachChunk holds what is told behind each chunk against what has come till then is.
func checkEachChunk(t *testing.T, what string, chunks []string) {
	t.Helper()
	s := frame.New(crc.Make())
	came, told := "", 0
	for _, c := range chunks {
		s.Feed(c)
		came += c
		want := slowSplit(came)
		checkState(t, what, s, want.broken, want.waiting)
		checkTold(t, what, s, want.payloads[told:]...)
		told = len(want.payloads)
	}
}

// checkCuts holds what a stream tells, cut in many ways, and asked behind each chunk and only in the end.
func checkCuts(t *testing.T, what string, stream string) {
	t.Helper()
	want := slowSplit(stream)
	for name, chunks := range cuts(stream) {
		checkStream(t, what+", "+name, want, chunks...)
		checkEachChunk(t, what+", "+name+", asked behind each", chunks)
	}
}

// cuts are a stream's chunks, cut in many ways.
func cuts(stream string) map[string][]string {
	l := map[string][]string{
		"all at once":      {stream},
		"byte by byte":     pieces(stream, 1),
		"with empty ones":  withEmpty(pieces(stream, 1)),
		"empty ones about": {"", "", stream, "", ""},
		"in twos":          pieces(stream, 2),
		"in threes":        pieces(stream, 3),
		"in fours":         withEmpty(pieces(stream, 4)),
		"in fives":         pieces(stream, 5),
		"in sevens":        pieces(stream, 7),
		"in eights":        pieces(stream, 8),
		"in nines":         pieces(stream, 9),
		"in fifties":       pieces(stream, 50),
	}
	r := rand.New(rand.NewPCG(6, uint64(len(stream))))
	for _, most := range []int{3, 12, 40} {
		l["at random, up to "+strconv.Itoa(most)] = randomPieces(r, stream, most)
	}
	return l
}

// pieces are s, in chunks of n bytes, the last one of what is left.
func pieces(s string, n int) []string {
	var l []string
	for len(s) > n {
		l = append(l, s[:n])
		s = s[n:]
	}
	return append(l, s)
}

// randomPieces are s, in chunks of none to most bytes.
func randomPieces(r *rand.Rand, s string, most int) []string {
	var l []string
	for s != "" {
		n := min(r.IntN(most+1), len(s))
		l = append(l, s[:n])
		s = s[n:]
	}
	return l
}

// withEmpty are these chunks, with empty ones among them.
func withEmpty(chunks []string) []string {
	l := []string{""}
	for _, c := range chunks {
		l = append(l, c, "")
	}
	return l
}

// randomText are n random bytes, of so many values.
func randomText(r *rand.Rand, n, values int) string {
	b := make([]byte, n)
	for i := range b {
		b[i] = byte(r.IntN(values))
	}
	return string(b)
}

// payloads are payloads of one byte and of all there may be, of zeros, and such as look like frames.
func payloads() []string {
	r := rand.New(rand.NewPCG(6, 1))
	l := []string{
		"a", "\x00", "\xff", "\x00\x00\x00\x00", "\x00\x00\x00\x01", "ab", "ä€𐍈", slowFrame("a"), framed("a", "b"), four(0), four(4001),
		strings.Repeat("\x00", api.MaxMessage), strings.Repeat("\xff", api.MaxMessage), strings.Repeat("ab", api.MaxMessage/2),
	}
	for _, n := range []int{2, 3, 4, 5, 7, 8, 9, 127, 128, 255, 256, 257, 1000, 3991, 3992, 3999, 4000} {
		l = append(l, randomText(r, n, 256), randomText(r, n, 2))
	}
	return l
}

// tooLong are payloads that have too many bytes.
func tooLong() []string {
	var l []string
	for _, n := range []int{4001, 4002, 4008, 4096, 5000, 60000, 65536, 65537, 1 << 20, 1<<24 + 1} {
		l = append(l, strings.Repeat("\x00", n), strings.Repeat("a", n))
	}
	return l
}

// wrongLengths are numbers that are no payload's length, each byte of them the one that is too great, too.
func wrongLengths() []uint32 {
	return []uint32{
		0, 4001, 4002, 4096, 8001, 65535, 65536, 65537, 1<<16 + 4000, 1 << 24, 1<<24 + 1, 1<<24 + 4000, 1<<31 - 1, 1 << 31, 1<<31 + 1, 1<<31 + 4000,
		1<<32 - 4000, 1<<32 - 1,
	}
}

// mustMake is the frame of a payload that has as many bytes as it may.
func mustMake(t *testing.T, table crc.Table, payload string) string {
	t.Helper()
	f, e := frame.Make(table, payload)
	if e != api.OK {
		t.Fatalf("Make(%x, of %d): error %d", brief(payload), len(payload), e)
	}
	return f
}
