package part_test

import (
	"slices"
	"strconv"
	"testing"

	"isogloss/api"
)

// someTxns are transactions in their order, of which some differ in one number alone.
func someTxns() []api.Txn {
	var l []api.Txn
	for _, node := range []int{-3, 0, 1, 2, 10} {
		for _, life := range []int{-1, 0, 1, 2, 10} {
			for _, seq := range []int{-1, 0, 1, 2, 9, 10, 100} {
				l = append(l, api.Txn{Node: node, Life: life, Seq: seq})
			}
		}
	}
	return l
}

// mixed are some transactions in another order: each step-th one, around and around, which must be prime to how many there are.
func mixed(l []api.Txn, step int) []api.Txn {
	var m []api.Txn
	for i := range l {
		m = append(m, l[i*step%len(l)])
	}
	return m
}

// checkOrder holds what All tells while transactions are prepared in this order, and while they are over in it.
func checkOrder(t *testing.T, l []api.Txn) {
	t.Helper()
	b := newBoth(t)
	b.checkTxns()
	for i, txn := range l {
		b.prepare(txn, 5, puts("key"+strconv.Itoa(i)), api.OK)
		if i < 5 || i%40 == 0 {
			b.checkTxns()
		}
	}
	if got := b.fast.All(); !slices.Equal(got, someTxns()) {
		t.Errorf("All: %v", got)
	}
	for i, txn := range l {
		if i%3 == 0 {
			b.commit(txn, 6, api.OK)
		} else {
			b.abort(txn, api.OK)
		}
		if i%40 == 0 || i > len(l)-5 {
			b.checkTxns()
		}
	}
	if got := b.fast.All(); len(got) > 0 {
		t.Errorf("All: %v", got)
	}
	b.checkAll()
}

// P13.2: All is by Node, Life, Seq, whether they are prepared in rising, falling or mixed order.
func TestAllOrders(t *testing.T) {
	checkOrder(t, someTxns())
	falling := someTxns()
	slices.Reverse(falling)
	checkOrder(t, falling)
	for _, step := range []int{3, 11, 64, 121, 174} { // all prime to 175
		checkOrder(t, mixed(someTxns(), step))
	}
}

// P13.2: of none there is none, also behind some.
func TestAllOfNone(t *testing.T) {
	b := newBoth(t, has{"k", at(5, "v")})
	b.checkTxns()
	b.refuse(txn(1), 4, puts("k"), api.ErrConflict)
	b.checkTxns()
	b.prepare(txn(1), 5, puts("k"), api.OK)
	b.abort(txn(1), api.OK)
	b.checkTxns()
	b.prepare(txn(1), 5, puts("k"), api.OK)
	b.commit(txn(1), 6, api.OK)
	b.checkTxns()
}

// P13.2: numbers so great, and so far from each other, that their difference would go around.
func TestAllGreatNumbers(t *testing.T) {
	const most, least = 1<<63 - 1, -1 << 63
	l := []api.Txn{{Node: least, Life: most}, {Node: -1, Life: least, Seq: least}, {Node: -1, Life: least, Seq: most}, {Node: -1, Life: most, Seq: least}, {}, {Life: most}, {Node: most}, {Node: most, Seq: most}, {Node: most, Life: most, Seq: least}, {Node: most, Life: most, Seq: most}}
	for _, step := range []int{1, 3, 7, 9} {
		b := newBoth(t)
		for i, txn := range mixed(l, step) {
			b.prepare(txn, 5, puts(strconv.Itoa(i)), api.OK)
			b.checkTxns()
		}
		if got := b.fast.All(); !slices.Equal(got, l) {
			t.Errorf("All: %v", got)
		}
	}
}
