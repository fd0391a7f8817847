package keys_test

import (
	"encoding/hex"
	"math"
	"reflect"
	"strings"
	"testing"

	"isogloss/api"
	"isogloss/keys"
)

// written are tuples with their bytes written out.
func written() []struct {
	l    []any
	want string
} {
	return []struct {
		l    []any
		want string
	}{
		{nil, ""},
		{[]any{true, "a"}, "21 50610000"},
		{[]any{nil}, "10"},
		{[]any{false}, "20"},
		{[]any{true}, "21"},
		{[]any{int64(math.MinInt64)}, "30 0000000000000000"},
		{[]any{int64(math.MinInt64 + 1)}, "30 0000000000000001"},
		{[]any{int64(-256)}, "30 7fffffffffffff00"},
		{[]any{int64(-1)}, "30 7fffffffffffffff"},
		{[]any{int64(0)}, "30 8000000000000000"},
		{[]any{int64(1)}, "30 8000000000000001"},
		{[]any{int64(0x0102030405060708)}, "30 8102030405060708"},
		{[]any{int64(math.MaxInt64)}, "30 ffffffffffffffff"},
		{[]any{uint64(0)}, "40 0000000000000000"},
		{[]any{uint64(1)}, "40 0000000000000001"},
		{[]any{uint64(0x8182838485868788)}, "40 8182838485868788"},
		{[]any{uint64(math.MaxUint64)}, "40 ffffffffffffffff"},
		{[]any{""}, "50 0000"},
		{[]any{"a"}, "50 61 0000"},
		{[]any{"\x00"}, "50 00ff 0000"},
		{[]any{"\xff"}, "50 ff 0000"},
		{[]any{"\x00\x00"}, "50 00ff 00ff 0000"},
		{[]any{"\x00\xff"}, "50 00ff ff 0000"},
		{[]any{"\xff\x00"}, "50 ff 00ff 0000"},
		{[]any{"a\x00b\xffc"}, "50 61 00ff 62 ff 63 0000"},
		{[]any{"ä"}, "50 c3a4 0000"},
		{[]any{keys.Down{}}, "ef"},
		{[]any{keys.Down{Item: nil}}, "ef"},
		{[]any{keys.Down{Item: false}}, "df"},
		{[]any{keys.Down{Item: true}}, "de"},
		{[]any{keys.Down{Item: int64(math.MinInt64)}}, "cf ffffffffffffffff"},
		{[]any{keys.Down{Item: int64(-2)}}, "cf 8000000000000001"},
		{[]any{keys.Down{Item: int64(0)}}, "cf 7fffffffffffffff"},
		{[]any{keys.Down{Item: int64(math.MaxInt64)}}, "cf 0000000000000000"},
		{[]any{keys.Down{Item: uint64(0)}}, "bf ffffffffffffffff"},
		{[]any{keys.Down{Item: uint64(0x0123456789abcdef)}}, "bf fedcba9876543210"},
		{[]any{keys.Down{Item: uint64(math.MaxUint64)}}, "bf 0000000000000000"},
		{[]any{keys.Down{Item: ""}}, "af ffff"},
		{[]any{keys.Down{Item: "a"}}, "af 9e ffff"},
		{[]any{keys.Down{Item: "\x00"}}, "af ff00 ffff"},
		{[]any{keys.Down{Item: "\xff"}}, "af 00 ffff"},
		{[]any{keys.Down{Item: "a\x00\xff"}}, "af 9e ff00 00 ffff"},
		{[]any{nil, nil}, "10 10"},
		{[]any{"", ""}, "50 0000 50 0000"},
		{[]any{"a", keys.Down{Item: "a"}, "b"}, "50 61 0000 af 9e ffff 50 62 0000"},
		{[]any{int64(1), uint64(1), nil, false, true},
			"30 8000000000000001 40 0000000000000001 10 20 21"},
		{[]any{keys.Down{Item: nil}, keys.Down{Item: int64(1)}, nil}, "ef cf 7ffffffffffffffe 10"},
	}
}

// bytesOf are the bytes that stand written out.
func bytesOf(t *testing.T, s string) string {
	t.Helper()
	b, err := hex.DecodeString(strings.ReplaceAll(s, " ", ""))
	if err != nil {
		t.Fatal(err)
	}
	return string(b)
}

// mustEncode is the bytes of a tuple that has some.
func mustEncode(t *testing.T, l ...any) string {
	t.Helper()
	b, e := keys.Encode(l...)
	if e != api.OK {
		t.Fatalf("Encode(%#v): error %d", l, e)
	}
	return b
}

// sameTuple tells whether two tuples have the same items, of the same types.
func sameTuple(a, b []any) bool {
	return len(a) == len(b) && (len(a) == 0 || reflect.DeepEqual(a, b))
}

// P3.1: tuples whose bytes stand written out, both ways.
func TestWrittenOut(t *testing.T) {
	for _, c := range written() {
		want := bytesOf(t, c.want)
		if got, e := keys.Encode(c.l...); e != api.OK || got != want {
			t.Errorf("Encode(%#v): %x, error %d, not %x", c.l, got, e, want)
		}
		if got, e := keys.Decode(want); e != api.OK || !sameTuple(got, c.l) {
			t.Errorf("Decode(%x): %#v, error %d, not %#v", want, got, e, c.l)
		}
		if got, e := keys.Compare(c.l, c.l); e != api.OK || got != 0 {
			t.Errorf("Compare(%#v) with itself: %d, error %d", c.l, got, e)
		}
	}
}

// P3.1: of no items there are no bytes, whether the list is nil or empty.
func TestNoItemsAtAll(t *testing.T) {
	for _, l := range [][]any{nil, {}} {
		if b, e := keys.Encode(l...); b != "" || e != api.OK {
			t.Errorf("Encode of no items: %x, error %d", b, e)
		}
		for _, other := range [][]any{nil, {}} {
			if n, e := keys.Compare(l, other); n != 0 || e != api.OK {
				t.Errorf("Compare of no items: %d, error %d", n, e)
			}
		}
	}
	if l, e := keys.Decode(""); len(l) != 0 || e != api.OK {
		t.Errorf("Decode of no bytes: %#v, error %d", l, e)
	}
}

// P3.1: an item that is nil is no list that is nil.
func TestNilIsAnItem(t *testing.T) {
	if b, e := keys.Encode(nil); b != "\x10" || e != api.OK {
		t.Errorf("Encode(nil): %x, error %d", b, e)
	}
	if n, e := keys.Compare([]any{nil}, nil); n != 1 || e != api.OK {
		t.Errorf("Compare: %d, error %d", n, e)
	}
}

type (
	ownBool   bool
	ownInt    int64
	ownUint   uint64
	ownString string
	ownDown   keys.Down
)

// noItems are values that are no items.
func noItems() []any {
	plain := []any{
		0, 1, -1, int8(1), int16(1), int32(1), uint(1), uint8(1), uint16(1), uint32(1), uintptr(1),
		1.5, float32(1), 1i, complex64(1), 'a', byte('a'),
		ownBool(true), ownInt(1), ownUint(1), ownString("a"), ownDown{Item: "a"},
		[]byte("a"), []byte(nil), []rune("a"), []any{"a"}, []any(nil), [1]byte{1}, [0]string{}, map[string]int{}, map[string]int(nil),
		struct{}{}, struct{ Item any }{"a"}, func() {}, (func())(nil), make(chan int), (chan int)(nil),
		new("a"), (*string)(nil), new(int64(1)), new(true), (*int)(nil), api.OK, api.ErrArg, api.Txn{},
		&keys.Down{}, &keys.Down{Item: "a"}, (*keys.Down)(nil), new(any), error(&fault{}),
	}
	l := plain
	for _, v := range plain {
		l = append(l, keys.Down{Item: v})
	}
	for _, v := range []any{nil, false, true, int64(1), uint64(1), "a", 1, keys.Down{}, keys.Down{Item: 1}} {
		l = append(l, keys.Down{Item: keys.Down{Item: v}})
	}
	return l
}

type fault struct{}

func (*fault) Error() string { return "" }

// P3.1: what is no item is told of, wherever it stands.
func TestNoItem(t *testing.T) {
	for _, v := range noItems() {
		for _, l := range [][]any{
			{v}, {v, "a"}, {"a", v}, {"a", v, "b"}, {nil, keys.Down{Item: "a"}, int64(1), v, uint64(1)}, {v, v},
		} {
			if b, e := keys.Encode(l...); b != "" || e != api.ErrArg {
				t.Errorf("Encode(%#v): %x, error %d", l, b, e)
			}
			checkCompareRefuses(t, l)
		}
	}
}

// checkCompareRefuses holds l, in which something is no item, against others, in both places.
func checkCompareRefuses(t *testing.T, l []any) {
	t.Helper()
	for _, other := range [][]any{
		nil, {nil}, {"a"}, {keys.Down{}}, {"a", nil}, {"a", "b", "c"}, {false, false, false, false, false, false}, l,
	} {
		if n, e := keys.Compare(l, other); n != 0 || e != api.ErrArg {
			t.Errorf("Compare(%#v, %#v): %d, error %d", l, other, n, e)
		}
		if n, e := keys.Compare(other, l); n != 0 || e != api.ErrArg {
			t.Errorf("Compare(%#v, %#v): %d, error %d", other, l, n, e)
		}
	}
}

// P3.1: a no item behind the first items that differ, or behind the other's end, is told of, too.
func TestNoItemBehindTheOrder(t *testing.T) {
	for _, v := range []any{1, keys.Down{Item: keys.Down{}}, keys.Down{Item: 1}} {
		for _, c := range []struct{ a, b []any }{
			{[]any{false, v}, []any{true}},
			{[]any{true, v}, []any{false, nil}},
			{[]any{false}, []any{true, v}},
			{[]any{"a", "b", v}, []any{"a"}},
			{[]any{}, []any{nil, nil, v}},
			{[]any{v}, []any{v}},
		} {
			checkArg(t, c.a, c.b)
			checkArg(t, c.b, c.a)
		}
	}
}

func checkArg(t *testing.T, a, b []any) {
	t.Helper()
	if n, e := keys.Compare(a, b); n != 0 || e != api.ErrArg {
		t.Errorf("Compare(%#v, %#v): %d, error %d", a, b, n, e)
	}
}

// P3.1: what is handed in is left as it is, its spare room too.
func TestArgumentsStay(t *testing.T) {
	room := []any{"a", keys.Down{Item: int64(2)}, nil, "spare", "room"}
	l := room[:3:5]
	mustEncode(t, l...)
	for _, other := range [][]any{l, {"a"}, {"b"}, {"a", keys.Down{Item: int64(3)}}, {1}} {
		keys.Compare(l, other)
		keys.Compare(other, l)
	}
	keys.Encode(append(l[:3:3], 1)...)
	if want := []any{"a", keys.Down{Item: int64(2)}, nil, "spare", "room"}; !reflect.DeepEqual(room, want) {
		t.Errorf("turned into %#v", room)
	}
}

// P3.1: what was answered is its owner's.
func TestAnswersAreNew(t *testing.T) {
	b := mustEncode(t, "a", nil)
	one, _ := keys.Decode(b)
	other, _ := keys.Decode(b)
	one[0], one[1] = 1, 2
	third, _ := keys.Decode(b)
	if want := []any{"a", nil}; !sameTuple(other, want) || !sameTuple(third, want) {
		t.Errorf("an answer hangs on another one: %#v, %#v", other, third)
	}
}
