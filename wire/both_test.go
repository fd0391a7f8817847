package wire_test

import (
	"testing"

	"isogloss/api"
	"isogloss/crc"
	"isogloss/msg"
	"isogloss/wire"
)

// both is a net and a slow one, of which the same is asked.
type both struct {
	t    *testing.T
	fast *wire.Net
	slow *slow
}

// fresh are both, with nothing on its way.
func fresh(t *testing.T) *both {
	t.Helper()
	b := &both{t, wire.New(crc.Make()), &slow{}}
	return b.check()
}

// with are both, with these messages on their way, in version 3.
func with(t *testing.T, l ...msg.Msg) *both {
	t.Helper()
	b := fresh(t)
	for _, m := range l {
		b.put(m, 3, 3, api.OK)
	}
	return b
}

// put puts m on its way in both, and holds what is answered.
func (b *both) put(m msg.Msg, from, to int, want api.Errno) *both {
	b.t.Helper()
	if e := b.slow.put(m, from, to); e != want {
		b.t.Errorf("the slow Put(%s, %d, %d): error %d, not %d", brief(m), from, to, e, want)
	}
	if e := b.fast.Put(m, from, to); e != want {
		b.t.Errorf("Put(%s, %d, %d): error %d, not %d", brief(m), from, to, e, want)
	}
	return b.check()
}

// take takes the i-th of both, and holds that the same is answered.
func (b *both) take(i, version int) *both {
	b.t.Helper()
	want, wantOK := b.slow.take(i, version)
	if m, ok := b.fast.Take(i, version); !same(m, want) || ok != wantOK {
		b.t.Errorf("Take(%d, %d): %s, %t, not %s, %t", i, version, brief(m), ok, brief(want), wantOK)
	}
	return b.check()
}

// takeIs takes the i-th of both, and holds that just this message is answered.
func (b *both) takeIs(i, version int, want msg.Msg) *both {
	b.t.Helper()
	if m, ok := b.slow.take(i, version); !same(m, want) || !ok {
		b.t.Errorf("the slow Take(%d, %d): %s, %t, not %s", i, version, brief(m), ok, brief(want))
	}
	if m, ok := b.fast.Take(i, version); !same(m, want) || !ok {
		b.t.Errorf("Take(%d, %d): %s, %t, not %s", i, version, brief(m), ok, brief(want))
	}
	return b.check()
}

// takeNone takes the i-th of both, and holds that no message is answered.
func (b *both) takeNone(i, version int) *both {
	b.t.Helper()
	if m, ok := b.slow.take(i, version); ok {
		b.t.Errorf("the slow Take(%d, %d): %s", i, version, brief(m))
	}
	if m, ok := b.fast.Take(i, version); !same(m, msg.Msg{}) || ok {
		b.t.Errorf("Take(%d, %d): %s, %t", i, version, brief(m), ok)
	}
	return b.check()
}

// drop drops the i-th of both.
func (b *both) drop(i int) *both {
	b.t.Helper()
	b.slow.drop(i)
	b.fast.Drop(i)
	return b.check()
}

// twice lets the i-th of both come twice.
func (b *both) twice(i int) *both {
	b.t.Helper()
	b.slow.twice(i)
	b.fast.Twice(i)
	return b.check()
}

// flip flips a bit of the i-th of both.
func (b *both) flip(i, bit int) *both {
	b.t.Helper()
	b.slow.flip(i, bit)
	b.fast.Flip(i, bit)
	return b.check()
}

// check holds what Len, To and Version tell, also of what isn't there.
func (b *both) check() *both {
	b.t.Helper()
	n := len(b.slow.letters)
	if got := b.fast.Len(); got != n {
		b.t.Fatalf("Len: %d, not %d", got, n)
	}
	for i, l := range b.slow.letters {
		b.checkAt(i, l.m.To, l.version)
	}
	for _, i := range none(n) {
		b.checkAt(i, -1, 0)
	}
	return b
}

// checkAt holds what To and Version tell of the i-th.
func (b *both) checkAt(i, to, version int) {
	b.t.Helper()
	if got := b.fast.To(i); got != to {
		b.t.Errorf("To(%d) of %d: %d, not %d", i, len(b.slow.letters), got, to)
	}
	if got := b.fast.Version(i); got != version {
		b.t.Errorf("Version(%d) of %d: %d, not %d", i, len(b.slow.letters), got, version)
	}
}

// drain takes all that is on its way, the first one first, and holds each message; then nothing is there.
func (b *both) drain() *both {
	b.t.Helper()
	for len(b.slow.letters) > 0 {
		b.take(0, 3)
	}
	return b.takeNone(0, 3)
}
