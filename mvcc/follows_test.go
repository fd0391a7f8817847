package mvcc_test

import (
	"math/rand/v2"
	"slices"
	"strings"
	"testing"

	"isogloss/api"
	"isogloss/block"
	"isogloss/crc"
	"isogloss/mvcc"
)

// view is what At tells of some keys, and what Scan tells of a range, at a time.
type view struct {
	versions []api.Version
	there    []bool
	writes   []api.Write
}

// viewOf is the view at a time.
func viewOf(s *mvcc.Store, keys []string, time uint64) view {
	var v view
	for _, key := range keys {
		version, ok := s.At(key, time)
		v.versions, v.there = append(v.versions, version), append(v.there, ok)
	}
	v.writes = s.Scan("", "", time, 1000)
	return v
}

// sameView tells whether two views tell the same.
func sameView(a, b view) bool {
	return slices.Equal(a.versions, b.versions) && slices.Equal(a.there, b.there) && slices.Equal(a.writes, b.writes)
}

// P11.3: what is installed later changes nothing at earlier times.
func TestEarlierStays(t *testing.T) {
	r := rand.New(rand.NewPCG(11, 4))
	keys := []string{"", "a", "aa", "ab", "b", "c", "\xff"}
	for range 60 {
		s := mvcc.New()
		var views []view
		for time := range uint64(80) {
			for _, key := range keys {
				if v := at(time, randomText(r, 4)); r.IntN(3) == 0 {
					s.Install(key, v)
				} else if r.IntN(3) == 0 {
					s.Install(key, gone(time))
				}
			}
			views = append(views, viewOf(s, keys, time))
			for earlier, v := range views {
				if got := viewOf(s, keys, uint64(earlier)); !sameView(got, v) {
					t.Fatalf("at %d, behind what was installed at %d: %v, not %v", earlier, time, got, v)
				}
			}
		}
	}
}

// P11.3: so of keys that come between others later, and of what is refused.
func TestEarlierStaysAmongNewKeys(t *testing.T) {
	b := fruit(t)
	before := viewOf(b.fast, someKeys(), 40)
	for i, key := range someKeys() {
		b.install(key, at(uint64(41+i), "new"), api.OK)
		b.install(key, gone(greatest), api.OK)
		b.install(key, at(greatest, "new"), api.ErrConflict)
		if got := viewOf(b.fast, someKeys(), 40); !sameView(got, before) {
			t.Errorf("behind %q: %v, not %v", key, got, before)
		}
	}
}

// P11.1, P11.2, P11.3: calls at random, held against the slow store.
func TestRandomly(t *testing.T) {
	r := rand.New(rand.NewPCG(11, 5))
	counts := map[api.Errno]int{}
	for range 60 {
		b := newBoth(t)
		for i := range 120 {
			counts[b.installRandomly(r, i+5)]++
			key := randomText(r, 3)
			b.checkAt(key, uint64(r.IntN(i+5)))
			b.checkAt(key, greatest)
			b.checkScan(key, randomText(r, 2), uint64(r.IntN(i+5)), r.IntN(12))
		}
		b.checkAll()
		b = b.again()
		for i := range 60 {
			counts[b.installRandomly(r, i+125)]++
		}
		b.checkAll()
	}
	for _, e := range []api.Errno{api.OK, api.ErrLong, api.ErrArg, api.ErrConflict} {
		if counts[e] < 100 {
			t.Errorf("%v: too few of error %d", counts, e)
		}
	}
}

// P11.1, P11.2: few keys, whose chains come to be full.
func TestRandomlyFull(t *testing.T) {
	r := rand.New(rand.NewPCG(11, 6))
	many := 0
	for range 20 {
		b := newBoth(t)
		for i := range 1500 {
			key, v := randomText(r, 1), at(uint64(i/2+1), randomText(r, 3))
			e := b.fast.Install(key, v)
			if want := b.slow.install(key, v); e != want {
				t.Fatalf("Install(%q, %d): error %d, not %d", key, v.Time, e, want)
			}
			if e == api.ErrMany {
				many++
			}
			if got, want := b.fast.Room(key), len(b.slow.chains[key]) < api.MaxVersions; got != want {
				t.Errorf("Room(%q): %t", key, got)
			}
		}
		b.checkAll()
		b.again().checkAll()
	}
	if many < 100 {
		t.Errorf("only %d were too many", many)
	}
}

// P11.1, P11.2: very many keys.
func TestManyKeys(t *testing.T) {
	b := newBoth(t)
	r := rand.New(rand.NewPCG(11, 7))
	for range 20000 {
		key := string([]byte{byte(r.Uint32()), byte(r.Uint32()), byte(r.IntN(4))})
		v := at(b.slow.last(key)+1, key)
		b.install(key, v, api.OK)
	}
	b.checkKeys()
	b.checkScan("a", "b", 1, 1000)
	b.checkScan("", "", 2, 100000)
	b.checkImage()
}

// R7: two stores do not hang on one another.
func TestTwoStores(t *testing.T) {
	one, other := newBoth(t), newBoth(t)
	for i := range uint64(20) {
		one.install("k", at(2*i+1, "one"), api.OK)
		other.install("k", gone(i+1), api.OK)
		one.install("one"+strings.Repeat("x", int(i)), at(1, "v"), api.OK)
		other.install("a"+strings.Repeat("x", int(i)), at(1, "v"), api.OK)
		one.checkAll()
		other.checkAll()
	}
	image, _ := one.fast.Image(crc.Make())
	third, fourth := &both{t, mustLoad(t, image), one.slow.clone()}, &both{t, mustLoad(t, image), one.slow.clone()}
	third.install("k", at(100, "third"), api.OK)
	fourth.install("k", at(100, "fourth"), api.OK)
	fourth.install("", at(1, "fourth"), api.OK)
	one.install("k", gone(99), api.OK)
	for _, b := range []*both{one, other, third, fourth} {
		b.checkAll()
	}
}

// R1: no call panics, whatever it is asked.
func TestWhatever(t *testing.T) {
	texts := []string{"", "k", "\xff", strings.Repeat("k", 100000)}
	for _, b := range []*both{newBoth(t), fruit(t), full(t, "k", api.MaxVersions)} {
		for _, lo := range texts {
			for _, hi := range texts {
				for _, time := range []uint64{0, 1, greatest} {
					b.checkScan(lo, hi, time, -1<<63)
					b.checkScan(lo, hi, time, 1<<63-1)
					b.checkAt(lo, time)
					b.install(lo, api.Version{Time: time, Gone: true, Value: texts[3]}, api.ErrLong)
				}
			}
		}
		var none crc.Table
		image, e := b.fast.Image(none)
		if want, wantE := block.Encode(none, b.slow.entries()); image != want || e != wantE {
			t.Errorf("%x, error %d", brief(image), e)
		}
		if _, e := mvcc.Load(none, image); e != api.OK {
			t.Errorf("error %d", e)
		}
	}
}
