package mvcc_test

import (
	"maps"
	"math/rand/v2"
	"slices"
	"strings"
	"testing"

	"isogloss/api"
	"isogloss/block"
	"isogloss/crc"
	"isogloss/mvcc"
)

// greatest is the greatest time.
const greatest = 1<<64 - 1

// at is a version with a value.
func at(time uint64, value string) api.Version {
	return api.Version{Time: time, Value: value}
}

// gone is a version that is gone.
func gone(time uint64) api.Version {
	return api.Version{Time: time, Gone: true}
}

// write is what Scan tells of a key that has a value.
func write(key, value string) api.Write {
	return api.Write{Key: key, Value: value}
}

// has is that a key has a version.
type has struct {
	key string
	v   api.Version
}

// slow is a store of the tests' own: a map of what was installed, and the times in the order in which they came.
type slow struct {
	chains map[string][]api.Version
	times  []uint64
}

// newSlow is a slow store of no keys.
func newSlow() *slow {
	return &slow{chains: map[string][]api.Version{}}
}

// clone is a slow store that has the same.
func (s *slow) clone() *slow {
	other := &slow{map[string][]api.Version{}, slices.Clone(s.times)}
	for key, l := range s.chains {
		other.chains[key] = slices.Clone(l)
	}
	return other
}

// install is Install as the chapter's words tell it.
func (s *slow) install(key string, v api.Version) api.Errno {
	if len(key) > 100 || len(v.Value) > 500 {
		return api.ErrLong
	}
	if v.Time == 0 || (v.Gone && len(v.Value) > 0) {
		return api.ErrArg
	}
	for _, ahead := range s.chains[key] {
		if ahead.Time >= v.Time {
			return api.ErrConflict
		}
	}
	if len(s.chains[key]) == 200 {
		return api.ErrMany
	}
	s.chains[key] = append(s.chains[key], v)
	s.times = append(s.times, v.Time)
	return api.OK
}

// at is At: of the versions up to the time, the one of the greatest.
func (s *slow) at(key string, time uint64) (api.Version, bool) {
	var last api.Version
	for _, v := range s.chains[key] {
		if v.Time <= time && v.Time > last.Time {
			last = v
		}
	}
	return last, last.Time > 0
}

// last is Last.
func (s *slow) last(key string) uint64 {
	v, _ := s.at(key, greatest)
	return v.Time
}

// keys is Keys: all that there are, put in order.
func (s *slow) keys() []string {
	return slices.Sorted(maps.Keys(s.chains))
}

// scan is Scan: of all keys those that are asked for.
func (s *slow) scan(lo, hi string, time uint64, most int) []api.Write {
	var l []api.Write
	for _, key := range s.keys() {
		if v, ok := s.at(key, time); ok && !v.Gone && key >= lo && (hi == "" || key < hi) {
			l = append(l, write(key, v.Value))
		}
	}
	return l[:max(0, min(most, len(l)))]
}

// entries are what an image is of.
func (s *slow) entries() []block.Entry {
	var l []block.Entry
	for _, key := range s.keys() {
		l = append(l, block.Entry{Key: key, Chain: s.chains[key]})
	}
	return l
}

// image is Image.
func (s *slow) image() (string, api.Errno) {
	return block.Encode(crc.Make(), s.entries())
}

// both is a store and a slow one, of which the same is asked.
type both struct {
	t    *testing.T
	fast *mvcc.Store
	slow *slow
}

// newBoth are two stores of no keys.
func newBoth(t *testing.T) *both {
	return &both{t, mvcc.New(), newSlow()}
}

// holding are two stores that have these, installed in this order.
func holding(t *testing.T, l ...has) *both {
	t.Helper()
	b := newBoth(t)
	for _, h := range l {
		b.install(h.key, h.v, api.OK)
	}
	return b
}

// install installs at both, and holds that the answer is this one.
func (b *both) install(key string, v api.Version, want api.Errno) {
	b.t.Helper()
	e := b.fast.Install(key, v)
	if slowE := b.slow.install(key, v); e != want || slowE != want {
		b.t.Fatalf("Install(%q, %d %t %q): error %d, and the slow one's %d, not %d", brief(key), v.Time, v.Gone, brief(v.Value), e, slowE, want)
	}
}

// refuse holds that Install answers this error, and that nothing has changed.
func (b *both) refuse(key string, v api.Version, want api.Errno) {
	b.t.Helper()
	b.install(key, v, want)
	b.checkAll()
}

// checkAt holds what At answers of a key at a time.
func (b *both) checkAt(key string, time uint64) {
	b.t.Helper()
	want, wantOk := b.slow.at(key, time)
	if v, ok := b.fast.At(key, time); v != want || ok != wantOk {
		b.t.Errorf("At(%q, %d): %v, %t, not %v, %t", brief(key), time, v, ok, want, wantOk)
	}
}

// checkScan holds what Scan answers.
func (b *both) checkScan(lo, hi string, time uint64, most int) {
	b.t.Helper()
	want := b.slow.scan(lo, hi, time, most)
	if got := b.fast.Scan(lo, hi, time, most); !slices.Equal(got, want) {
		b.t.Errorf("Scan(%q, %q, %d, %d): %v, not %v", brief(lo), brief(hi), time, most, got, want)
	}
}

// checkKey holds what At, Last and Room answer of a key.
func (b *both) checkKey(key string) {
	b.t.Helper()
	for _, time := range b.times() {
		b.checkAt(key, time)
	}
	if got, want := b.fast.Last(key), b.slow.last(key); got != want {
		b.t.Errorf("Last(%q): %d, not %d", brief(key), got, want)
	}
	if got, want := b.fast.Room(key), len(b.slow.chains[key]) < 200; got != want {
		b.t.Errorf("Room(%q): %t, not %t", brief(key), got, want)
	}
}

// checkKeys holds what Keys answers.
func (b *both) checkKeys() {
	b.t.Helper()
	if got, want := b.fast.Keys(), b.slow.keys(); !slices.Equal(got, want) {
		b.t.Errorf("Keys: %q, not %q", got, want)
	}
}

// checkImage holds what Image answers.
func (b *both) checkImage() {
	b.t.Helper()
	want, wantE := b.slow.image()
	if got, e := b.fast.Image(crc.Make()); got != want || e != wantE {
		b.t.Errorf("Image: %x, of %d, error %d, not %x, of %d, error %d", brief(got), len(got), e, brief(want), len(want), wantE)
	}
}

// ends are the first n of a list and the last n, some of them twice, if there are fewer.
func ends[T any](l []T, n int) []T {
	return slices.Concat(l[:min(len(l), n)], l[max(0, len(l)-n):])
}

// times are some at which there may be a difference: a few of those of versions, and the ones beside them.
func (b *both) times() []uint64 {
	l := []uint64{0, 1, greatest - 1, greatest}
	for _, time := range ends(b.slow.times, 8) {
		l = append(l, time-1, time, time+1)
	}
	slices.Sort(l)
	return slices.Compact(l)
}

// asked are some keys to ask for: a few that the store has, what stands beside them, and what isn't there.
func (b *both) asked() []string {
	l := []string{"", "\x00", "k", "zz", "\xff\xff", strings.Repeat("k", 100), strings.Repeat("k", 101)}
	for _, key := range ends(b.slow.keys(), 5) {
		l = append(l, key, key+"\x00", key+"\xff")
		if key != "" {
			l = append(l, key[:len(key)-1])
		}
	}
	slices.Sort(l)
	return slices.Compact(l)
}

// checkAll holds what every call answers.
func (b *both) checkAll() {
	b.t.Helper()
	b.checkKeys()
	b.checkImage()
	for _, key := range b.asked() {
		b.checkKey(key)
		for _, time := range b.times() {
			b.checkScan(key, "", time, 1000)
		}
	}
	b.checkScan("", "", greatest, 2)
}

// again is the store that is loaded of the image, with the same slow one beside it.
func (b *both) again() *both {
	b.t.Helper()
	image, e := b.fast.Image(crc.Make())
	if e != api.OK {
		b.t.Fatalf("Image: error %d", e)
	}
	s, e := mvcc.Load(crc.Make(), image)
	if e != api.OK {
		b.t.Fatalf("Load: error %d", e)
	}
	return &both{b.t, s, b.slow.clone()}
}

// brief is as much of some bytes as a fault is told with.
func brief(s string) string {
	return s[:min(len(s), 60)]
}

// randomText are at most n bytes at random, of few kinds.
func randomText(r *rand.Rand, n int) string {
	b := make([]byte, r.IntN(n+1))
	for i := range b {
		b[i] = "ab\x00\xff\x80"[r.IntN(5)]
	}
	return string(b)
}

// randomVersion is a version of any kind, most of them right, at a time of up to n.
func randomVersion(r *rand.Rand, n int) api.Version {
	v := api.Version{Time: uint64(r.IntN(n + 1)), Value: randomText(r, 4)}
	switch r.IntN(30) {
	case 0, 1, 2, 3, 4, 5, 6:
		v = gone(v.Time)
	case 7:
		v.Gone = true
	case 8:
		v.Value = strings.Repeat(v.Value+"v", 100+r.IntN(200))
	case 9:
		v.Time = greatest - uint64(r.IntN(3))
	}
	return v
}

// randomBoth are two stores, at which up to n were installed at random, or refused.
func randomBoth(t *testing.T, r *rand.Rand, n int) *both {
	t.Helper()
	b := newBoth(t)
	for i := range r.IntN(n + 1) {
		b.installRandomly(r, 2*i+5)
	}
	return b
}

// installRandomly installs something at random, at a time of up to n, and tells the answer.
func (b *both) installRandomly(r *rand.Rand, n int) api.Errno {
	b.t.Helper()
	key := randomText(r, 3)
	if r.IntN(40) == 0 {
		key = strings.Repeat("k", 99+r.IntN(3))
	}
	v := randomVersion(r, n)
	e := b.fast.Install(key, v)
	if want := b.slow.install(key, v); e != want {
		b.t.Errorf("Install(%q, %d %t %q): error %d, not %d", brief(key), v.Time, v.Gone, brief(v.Value), e, want)
	}
	return e
}
