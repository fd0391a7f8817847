package keys_test

import (
	"math"
	"slices"
	"strings"
	"testing"

	"isogloss/api"
	"isogloss/keys"
)

// rising are items that are no Downs, each ahead of the next one.
func rising() []any {
	l := []any{nil, false, true}
	for _, n := range []int64{
		math.MinInt64, math.MinInt64 + 1, -1 << 40, -257, -256, -255, -2, -1, 0, 1, 2, 127, 128, 255, 256, 257,
		1 << 32, math.MaxInt64 - 1, math.MaxInt64,
	} {
		l = append(l, n)
	}
	for _, n := range []uint64{
		0, 1, 2, 127, 128, 255, 256, 257, 1 << 32, math.MaxInt64, 1 << 63, 1<<63 + 1, math.MaxUint64 - 1, math.MaxUint64,
	} {
		l = append(l, n)
	}
	for _, s := range []string{
		"", "\x00", "\x00\x00", "\x00\x00\x00", "\x00\x00\xff", "\x00\x01", "\x00a", "\x00\xfe", "\x00\xff", "\x00\xff\x00", "\x00\xff\xff",
		"\x01", "\x01\x00", "\x01\xff", "\x10", "\x50", "a", "a\x00", "a\x00\x00", "a\x00b", "a\x00\xff", "a\x01", "aa", "ab", "a\xff", "b",
		"\x7f", "\x80", "\xaf", "\xc3\xa4", "\xfe", "\xff", "\xff\x00", "\xff\x00\x00", "\xff\x00\xff", "\xff\x01", "\xff\xfe", "\xff\xff", "\xff\xff\xff",
	} {
		l = append(l, s)
	}
	return l
}

// items are items of each kind, and a Down of each, each ahead of the next one.
func items() []any {
	l := rising()
	for _, v := range slices.Backward(rising()) {
		l = append(l, keys.Down{Item: v})
	}
	return l
}

// picked are some of the items, and where these stand, in their order.
func picked(n int) []int {
	all := len(items())
	var l []int
	for i := range n {
		l = append(l, i*(all-1)/(n-1))
	}
	return l
}

// tuples are tuples of items, each told by where its items stand among them: their order is that of these places.
func tuples() [][]int {
	l := [][]int{{}}
	for i := range items() {
		l = append(l, []int{i})
	}
	for _, i := range picked(24) {
		for _, j := range picked(18) {
			l = append(l, []int{i, j})
		}
	}
	for _, i := range picked(9) {
		for _, j := range picked(8) {
			for _, k := range picked(7) {
				l = append(l, []int{i, j, k})
			}
		}
	}
	return l
}

// tupleAt is the tuple of the items at these places.
func tupleAt(places []int) []any {
	all := items()
	var l []any
	for _, i := range places {
		l = append(l, all[i])
	}
	return l
}

// P3.2: for every two of many tuples the bytes are as the tuples' order, and P3.1: so is what Compare answers.
func TestOrder(t *testing.T) {
	places := tuples()
	var made [][]any
	var bytes []string
	for _, p := range places {
		l := tupleAt(p)
		made = append(made, l)
		bytes = append(bytes, mustEncode(t, l...))
	}
	for i := range places {
		for j := range places {
			want := slices.Compare(places[i], places[j])
			if got := strings.Compare(bytes[i], bytes[j]); got != want {
				t.Fatalf("%#v and %#v: bytes %x, %x: %d, not %d", made[i], made[j], bytes[i], bytes[j], got, want)
			}
			if got, e := keys.Compare(made[i], made[j]); e != api.OK || got != want {
				t.Fatalf("Compare(%#v, %#v): %d, error %d, not %d", made[i], made[j], got, e, want)
			}
		}
	}
}

// P3.1: some orders that stand written out.
func TestOrderWrittenOut(t *testing.T) {
	for _, c := range []struct {
		a, b []any
		want int
	}{
		{[]any{}, []any{nil}, -1},
		{[]any{nil}, []any{false}, -1},
		{[]any{false}, []any{true}, -1},
		{[]any{true}, []any{int64(math.MinInt64)}, -1},
		{[]any{int64(5)}, []any{int64(-5)}, 1},
		{[]any{int64(math.MaxInt64)}, []any{uint64(0)}, -1},
		{[]any{uint64(math.MaxUint64)}, []any{""}, -1},
		{[]any{"b"}, []any{"aaa"}, 1},
		{[]any{"a"}, []any{"a\x00"}, -1},
		{[]any{"\xff\xff"}, []any{keys.Down{Item: "\xff\xff"}}, -1},
		{[]any{nil}, []any{keys.Down{Item: "a"}}, -1},
		{[]any{keys.Down{Item: nil}}, []any{nil}, 1},
		{[]any{keys.Down{Item: nil}}, []any{keys.Down{Item: "a"}}, 1},
		{[]any{keys.Down{Item: "a"}}, []any{keys.Down{Item: "ab"}}, 1},
		{[]any{keys.Down{Item: "b"}}, []any{keys.Down{Item: "a"}}, -1},
		{[]any{keys.Down{Item: int64(1)}}, []any{keys.Down{Item: int64(-1)}}, -1},
		{[]any{keys.Down{Item: true}}, []any{keys.Down{Item: false}}, -1},
		{[]any{"a", "z"}, []any{"aa", "a"}, -1},
		{[]any{"a", keys.Down{Item: "z"}}, []any{"a", keys.Down{Item: "a"}}, -1},
		{[]any{"a"}, []any{"a", nil}, -1},
		{[]any{keys.Down{Item: "a"}}, []any{keys.Down{Item: "a"}, nil}, -1},
		{[]any{keys.Down{Item: "a"}, "b"}, []any{keys.Down{Item: "a"}, "b"}, 0},
		{[]any{"a", nil, nil}, []any{"a", false}, -1},
	} {
		if got, e := keys.Compare(c.a, c.b); e != api.OK || got != c.want {
			t.Errorf("Compare(%#v, %#v): %d, error %d, not %d", c.a, c.b, got, e, c.want)
		}
		if got, e := keys.Compare(c.b, c.a); e != api.OK || got != -c.want {
			t.Errorf("Compare(%#v, %#v): %d, error %d, not %d", c.b, c.a, got, e, -c.want)
		}
	}
}

// P3.2: one tuple of many items with which another one begins is ahead, and its bytes begin the other's.
func TestTupleBeginsAnother(t *testing.T) {
	all := items()
	whole := mustEncode(t, all...)
	for i := range all {
		b := mustEncode(t, all[:i]...)
		if !strings.HasPrefix(whole, b) || b >= whole {
			t.Errorf("the first %d items' bytes don't begin those of all", i)
		}
		if n, e := keys.Compare(all[:i], all); n != -1 || e != api.OK {
			t.Errorf("Compare of the first %d items with all: %d, error %d", i, n, e)
		}
		if n, e := keys.Compare(all, all[:i]); n != 1 || e != api.OK {
			t.Errorf("Compare of all with the first %d items: %d, error %d", i, n, e)
		}
	}
}

// P3.2: no item's bytes begin with another's.
func TestNoItemBeginsAnother(t *testing.T) {
	all := items()
	for i, v := range all {
		b := mustEncode(t, v)
		for j, w := range all {
			if other := mustEncode(t, w); i != j && strings.HasPrefix(b, other) {
				t.Errorf("%#v: %x begins with %x of %#v", v, b, other, w)
			}
		}
	}
}

// P3.1: a tuple's bytes are its items', one behind the other.
func TestBytesStandBehindEachOther(t *testing.T) {
	for _, p := range tuples() {
		l := tupleAt(p)
		want := ""
		for _, v := range l {
			want += mustEncode(t, v)
		}
		if got := mustEncode(t, l...); got != want {
			t.Errorf("Encode(%#v): %x, not %x", l, got, want)
		}
	}
}
