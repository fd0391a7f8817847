package part_test

import (
	"maps"
	"slices"
	"strings"
	"testing"

	"isogloss/api"
	"isogloss/mvcc"
	"isogloss/part"
)

// greatest is the greatest time.
const greatest = 1<<64 - 1

// at is a version with a value.
func at(time uint64, value string) api.Version {
	return api.Version{Time: time, Value: value}
}

// gone is a version that is gone.
func gone(time uint64) api.Version {
	return api.Version{Time: time, Gone: true}
}

// put is a write of a value.
func put(key, value string) api.Write {
	return api.Write{Key: key, Value: value}
}

// drop is a write of what is gone.
func drop(key string) api.Write {
	return api.Write{Key: key, Gone: true}
}

// puts are writes of some keys, each with a value of its own.
func puts(keys ...string) []api.Write {
	var l []api.Write
	for i, key := range keys {
		l = append(l, put(key, "of "+key[:min(len(key), 5)]+strings.Repeat("!", i)))
	}
	return l
}

// txn is a transaction of the node 1, in its life 2.
func txn(seq int) api.Txn {
	return api.Txn{Node: 1, Life: 2, Seq: seq}
}

// has is that a key has a version.
type has struct {
	key string
	v   api.Version
}

// slowWork is what one that is prepared has.
type slowWork struct {
	txn    api.Txn
	start  uint64
	writes []api.Write
}

// slow is a participant of the tests' own: a list of what is prepared, which is gone through at each question, and of each key a list of versions.
type slow struct {
	works  []slowWork
	chains map[string][]api.Version
}

// find is where one that is prepared stands, or below 0.
func (s *slow) find(t api.Txn) int {
	return slices.IndexFunc(s.works, func(w slowWork) bool { return w.txn == t })
}

// writers are how many of those that are prepared write a key.
func (s *slow) writers(key string) int {
	n := 0
	for _, w := range s.works {
		for _, x := range w.writes {
			if x.Key == key {
				n++
			}
		}
	}
	return n
}

// at is the version of the greatest time up to that.
func (s *slow) at(key string, time uint64) (api.Version, bool) {
	var last api.Version
	for _, v := range s.chains[key] {
		if v.Time <= time && v.Time > last.Time {
			last = v
		}
	}
	return last, last.Time > 0
}

// read is Read.
func (s *slow) read(key string, time uint64) (api.Version, api.Errno) {
	v, ok := s.at(key, time)
	if s.writers(key) > 0 {
		return api.Version{}, api.ErrBusy
	}
	if !ok {
		return api.Version{}, api.ErrNone
	}
	return v, api.OK
}

// wrongOf are the errors of one write by itself.
func (s *slow) wrongOf(w api.Write, start uint64) []api.Errno {
	var l []api.Errno
	if w.Gone && len(w.Value) > 0 {
		l = append(l, api.ErrArg)
	}
	if len(w.Key) > 100 || len(w.Value) > 500 {
		l = append(l, api.ErrLong)
	}
	if s.writers(w.Key) > 0 {
		l = append(l, api.ErrBusy)
	}
	if last, _ := s.at(w.Key, greatest); last.Time > start {
		l = append(l, api.ErrConflict)
	}
	if len(s.chains[w.Key]) >= 200 {
		l = append(l, api.ErrMany)
	}
	return l
}

// may is May: of all errors that apply the one that the chapter names first.
func (s *slow) may(t api.Txn, start uint64, l []api.Write) api.Errno {
	if s.find(t) >= 0 {
		return api.OK
	}
	var wrong []api.Errno
	keys := map[string]int{}
	for _, w := range l {
		wrong = append(wrong, s.wrongOf(w, start)...)
		keys[w.Key]++
	}
	if len(l) == 0 || len(l) > 8 || len(keys) < len(l) {
		wrong = append(wrong, api.ErrArg)
	}
	for _, e := range []api.Errno{api.ErrArg, api.ErrLong, api.ErrBusy, api.ErrConflict, api.ErrMany} {
		if slices.Contains(wrong, e) {
			return e
		}
	}
	return api.OK
}

// prepare is Prepare.
func (s *slow) prepare(t api.Txn, start uint64, l []api.Write) api.Errno {
	e := s.may(t, start, l)
	if e == api.OK && s.find(t) < 0 {
		s.works = append(s.works, slowWork{t, start, slices.Clone(l)})
	}
	return e
}

// install puts a version behind a key's others.
func (s *slow) install(key string, v api.Version) {
	s.chains[key] = append(s.chains[key], v)
}

// commit is Commit.
func (s *slow) commit(t api.Txn, time uint64) api.Errno {
	i := s.find(t)
	if i < 0 {
		return api.ErrNone
	}
	if s.works[i].start >= time {
		return api.ErrArg
	}
	for _, x := range s.works[i].writes {
		s.install(x.Key, api.Version{Time: time, Gone: x.Gone, Value: x.Value})
	}
	s.works = slices.Delete(s.works, i, i+1)
	return api.OK
}

// abort is Abort.
func (s *slow) abort(t api.Txn) api.Errno {
	i := s.find(t)
	if i < 0 {
		return api.ErrNone
	}
	s.works = slices.Delete(s.works, i, i+1)
	return api.OK
}

// numbers are a transaction's.
func numbers(t api.Txn) []int {
	return []int{t.Node, t.Life, t.Seq}
}

// all is All: each one stands behind those whose numbers are less.
func (s *slow) all() []api.Txn {
	l := make([]api.Txn, len(s.works))
	for _, w := range s.works {
		ahead := 0
		for _, other := range s.works {
			if slices.Compare(numbers(other.txn), numbers(w.txn)) < 0 {
				ahead++
			}
		}
		l[ahead] = w.txn
	}
	return l
}

// both is a participant and a slow one, of which the same is asked.
type both struct {
	t    *testing.T
	fast *part.Part
	slow *slow
}

// newBoth are two new ones, whose stores have these versions, of each key in order.
func newBoth(t *testing.T, l ...has) *both {
	t.Helper()
	b := &both{t, part.New(mvcc.New()), &slow{chains: map[string][]api.Version{}}}
	for _, h := range l {
		b.install(h.key, h.v)
	}
	return b
}

// install puts a version at a key in both stores, not by a transaction.
func (b *both) install(key string, v api.Version) {
	b.t.Helper()
	if e := b.fast.Store().Install(key, v); e != api.OK {
		b.t.Fatalf("Install(%q, %v): error %d", key, v, e)
	}
	b.slow.install(key, v)
}

// fill puts versions at a key till it has so many, at the times from 1 on.
func (b *both) fill(key string, n int) {
	b.t.Helper()
	for i := range n {
		b.install(key, at(uint64(i+1), "full"))
	}
}

// prepare holds what Prepare answers, and May ahead of it.
func (b *both) prepare(t api.Txn, start uint64, l []api.Write, want api.Errno) {
	b.t.Helper()
	b.checkMay(t, start, l, want)
	if e := b.fast.Prepare(t, start, l); e != want {
		b.t.Errorf("Prepare(%v, %d, %s): error %d, not %d", t, start, brief(l), e, want)
	}
	b.slow.prepare(t, start, l)
}

// checkMay holds what May answers, asked twice.
func (b *both) checkMay(t api.Txn, start uint64, l []api.Write, want api.Errno) {
	b.t.Helper()
	if e := b.slow.may(t, start, l); e != want {
		b.t.Fatalf("the slow one's May(%v, %d, %s): error %d, not %d", t, start, brief(l), e, want)
	}
	for range 2 {
		if e := b.fast.May(t, start, l); e != want {
			b.t.Errorf("May(%v, %d, %s): error %d, not %d", t, start, brief(l), e, want)
		}
	}
}

// refuse holds that May and Prepare answer an error, and that both change nothing.
func (b *both) refuse(t api.Txn, start uint64, l []api.Write, want api.Errno) {
	b.t.Helper()
	b.prepare(t, start, l, want)
	b.checkAll(l...)
}

// commit holds what Commit answers.
func (b *both) commit(t api.Txn, time uint64, want api.Errno) {
	b.t.Helper()
	if e := b.slow.commit(t, time); e != want {
		b.t.Fatalf("the slow one's Commit(%v, %d): error %d, not %d", t, time, e, want)
	}
	if e := b.fast.Commit(t, time); e != want {
		b.t.Errorf("Commit(%v, %d): error %d, not %d", t, time, e, want)
	}
}

// abort holds what Abort answers.
func (b *both) abort(t api.Txn, want api.Errno) {
	b.t.Helper()
	if e := b.slow.abort(t); e != want {
		b.t.Fatalf("the slow one's Abort(%v): error %d, not %d", t, e, want)
	}
	if e := b.fast.Abort(t); e != want {
		b.t.Errorf("Abort(%v): error %d, not %d", t, e, want)
	}
}

// checkRead holds that Read answers just this.
func (b *both) checkRead(key string, time uint64, want api.Version, wantE api.Errno) {
	b.t.Helper()
	if v, e := b.fast.Read(key, time); v != want || e != wantE {
		b.t.Errorf("Read(%q, %d): %v, error %d, not %v, error %d", short(key), time, v, e, want, wantE)
	}
}

// checkKey holds what Read answers of a key, and what the store has of it, at some times.
func (b *both) checkKey(key string) {
	b.t.Helper()
	times := []uint64{0, 1, 1 << 63, greatest - 1, greatest}
	l := b.slow.chains[key]
	for _, v := range slices.Concat(l[:min(len(l), 2)], l[max(0, len(l)-3):]) {
		times = append(times, v.Time-1, v.Time, v.Time+1)
	}
	for _, time := range times {
		want, wantE := b.slow.read(key, time)
		b.checkRead(key, time, want, wantE)
		want, ok := b.slow.at(key, time)
		if v, there := b.fast.Store().At(key, time); v != want || there != ok {
			b.t.Errorf("the store's At(%q, %d): %v, %t, not %v, %t", short(key), time, v, there, want, ok)
		}
	}
	want, _ := b.slow.at(key, greatest)
	if last := b.fast.Store().Last(key); last != want.Time {
		b.t.Errorf("the store's Last(%q): %d, not %d", short(key), last, want.Time)
	}
}

// checkTxns holds what All and Prepared answer.
func (b *both) checkTxns() {
	b.t.Helper()
	want := b.slow.all()
	for range 2 {
		if got := b.fast.All(); !slices.Equal(got, want) {
			b.t.Errorf("All: %v, not %v", got, want)
		}
	}
	others := []api.Txn{{}, txn(1), txn(2), txn(3)}
	for _, t := range want {
		others = append(others, t, api.Txn{Node: t.Life, Life: t.Node, Seq: t.Seq}, api.Txn{Node: t.Node + 1, Life: t.Life, Seq: t.Seq}, api.Txn{Node: t.Node, Life: t.Life - 1, Seq: t.Seq}, api.Txn{Node: t.Node, Life: t.Life, Seq: t.Seq + 1})
	}
	for _, t := range others {
		if got, want := b.fast.Prepared(t), b.slow.find(t) >= 0; got != want {
			b.t.Errorf("Prepared(%v): %t", t, got)
		}
	}
}

// checkAll holds all that is told, of all keys that there are and of those of some writes.
func (b *both) checkAll(l ...api.Write) {
	b.t.Helper()
	b.checkTxns()
	keys := slices.Sorted(maps.Keys(b.slow.chains))
	if got := b.fast.Store().Keys(); !slices.Equal(got, keys) {
		b.t.Errorf("the store's keys: %q, not %q", got, keys)
	}
	keys = append(keys, "", "k", "nobody's")
	for _, w := range l {
		keys = append(keys, w.Key)
	}
	for _, w := range b.slow.works {
		for _, x := range w.writes {
			keys = append(keys, x.Key, x.Key+"\x00")
		}
	}
	slices.Sort(keys)
	for _, key := range slices.Compact(keys) {
		b.checkKey(key)
	}
}

// short is as much of a text as a fault is told with.
func short(s string) string {
	return s[:min(len(s), 30)]
}

// brief is as much of some writes as a fault is told with.
func brief(l []api.Write) string {
	var b strings.Builder
	for _, w := range l[:min(len(l), 10)] {
		b.WriteString(short(w.Key) + "=" + short(w.Value))
		if w.Gone {
			b.WriteString("(gone)")
		}
		b.WriteString(" ")
	}
	return b.String()
}
