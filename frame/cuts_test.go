package frame_test

import (
	"math/rand/v2"
	"strings"
	"testing"

	"isogloss/api"
)

// streams are right and wrong ones, with frames ahead and behind.
func streams() map[string]string {
	long := strings.Repeat("long", 20)
	bad := "\x00\x00\x00\x03\x00\x00\x00\x00bad"
	return map[string]string{
		"none":              "",
		"one":               slowFrame("a"),
		"some":              framed("a", "bc", "\x00", "a", long, slowFrame("in"), "z"),
		"cut in a length":   framed("a", long) + "\x00\x00",
		"cut in a sum":      framed("a", long) + slowFrame("last")[:6],
		"cut in a payload":  framed("a", long) + slowFrame("last")[:11],
		"no length":         framed("a", long, "b") + four(0),
		"no length, more":   framed("a", long, "b") + four(0) + framed("c", "d"),
		"too great":         framed("a", "b") + four(4001),
		"too great, more":   framed("a", "b") + four(1<<31) + framed("c", "d", long),
		"another sum":       framed("a", "b", long) + bad,
		"another sum, more": framed("a", "b", long) + bad + framed("c", long),
		"wrong at once":     bad + framed("a", "b"),
		"zeros":             strings.Repeat("\x00", 30),
		"no frames":         "these are no frames",
	}
}

// P6.2: however a stream is cut, right or wrong, the same is told, behind each chunk and only in the end.
func TestCutsTellTheSame(t *testing.T) {
	for name, stream := range streams() {
		checkCuts(t, name, stream)
	}
}

// P6.2: cut at every two places.
func TestCutsAtEveryTwoPlaces(t *testing.T) {
	for name, stream := range streams() {
		want := slowSplit(stream)
		for i := range len(stream) + 1 {
			for k := i; k <= len(stream); k += 1 + k/20 {
				checkStream(t, name, want, stream[:i], stream[i:k], stream[k:])
			}
			checkEachChunk(t, name, []string{stream[:i], stream[i:]})
		}
	}
}

// P6.2: the longest payloads, too.
func TestCutsOfTheLongest(t *testing.T) {
	r := rand.New(rand.NewPCG(6, 3))
	l := []string{randomText(r, api.MaxMessage, 256), "a", randomText(r, api.MaxMessage-1, 2), randomText(r, api.MaxMessage, 3)}
	for _, end := range []string{"", "\x00\x00\x0f", four(4001), slowFrame(l[0])[:4007], four(4000) + strings.Repeat("\x00", 4004) + slowFrame("a")} {
		stream := framed(l...) + end
		want := slowSplit(stream)
		for _, n := range []int{1, 2, 3, 7, 8, 9, 1000, 3999, 4000, 4007, 4008, 4009, 5000, len(stream)} {
			checkStream(t, "the longest", want, pieces(stream, n)...)
			checkStream(t, "the longest, with empty ones", want, withEmpty(pieces(stream, n))...)
		}
	}
}

// P6.2: streams at random: frames, some of them spoilt, cut at random.
func TestCutsAtRandom(t *testing.T) {
	r := rand.New(rand.NewPCG(6, 4))
	for range 1500 {
		stream := randomStream(r)
		want := slowSplit(stream)
		for _, most := range []int{1, 3, 9, 30, 200} {
			chunks := randomPieces(r, stream, most)
			checkStream(t, "at random", want, chunks...)
			checkEachChunk(t, "at random, asked behind each", chunks)
		}
	}
}

// randomStream are some frames; in each other stream one byte is another one, is gone, or is there twice.
func randomStream(r *rand.Rand) string {
	b := ""
	for range r.IntN(7) {
		b += slowFrame(randomText(r, 1+r.IntN(20), 1+r.IntN(256)))
	}
	if b == "" || r.IntN(2) == 0 {
		return b
	}
	i := r.IntN(len(b))
	switch r.IntN(4) {
	case 0:
		return b[:i] + b[i+1:]
	case 1:
		return b[:i+1] + b[i:]
	case 2:
		return b[:i]
	}
	return b[:i] + string([]byte{b[i] ^ byte(1+r.IntN(255))}) + b[i+1:]
}

// P6.1, P6.2: many frames are told in good time, all at once and byte by byte.
func TestManyFrames(t *testing.T) {
	const many = 200000
	stream := strings.Repeat(slowFrame("a"), many)
	for _, chunks := range [][]string{{stream}, pieces(stream, 1), pieces(stream, 4097)} {
		s := fed(chunks...)
		checkState(t, "many", s, false, 0)
		if got := tell(t, s); len(got) != many || strings.Join(got, "") != strings.Repeat("a", many) {
			t.Errorf("%d were told, not %d", len(got), many)
		}
	}
}
