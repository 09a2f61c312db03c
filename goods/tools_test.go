package goods_test

import (
	"maps"
	"math"
	"slices"
	"testing"

	"bazaar/api"
	"bazaar/goods"
)

// most is the greatest amount.
const most = 1152921504606846976

// of is goods of these items and counts, turn by turn.
func of(numbers ...int64) []api.Stack {
	var l []api.Stack
	for i := 0; i < len(numbers); i += 2 {
		l = append(l, api.Stack{Item: uint16(numbers[i]), Count: numbers[i+1]})
	}
	return l
}

// stacks is n stacks, from an item on, each so many items behind the last one, of many counts.
func stacks(n, from, step int) []api.Stack {
	var l []api.Stack
	for i := range n {
		l = append(l, api.Stack{Item: uint16(from + i*step), Count: int64(i*i)%97 + 1})
	}
	return l
}

// clone is the same goods in other memory, without spare room.
func clone(l []api.Stack) []api.Stack {
	return append(make([]api.Stack, 0, len(l)), l...)
}

// with is goods with another stack at a place.
func with(l []api.Stack, at int, s api.Stack) []api.Stack {
	l = clone(l)
	l[at] = s
	return l
}

// brief is goods in a failing test's words.
func brief(l []api.Stack) []any {
	return []any{len(l), l[:min(len(l), 24)]}
}

// counts is numbers that are a stack's Count, or not.
func counts() []int64 {
	return []int64{math.MinInt64, -most, -1, 0, 1, 2, 3, 96, 97, 98, 1 << 31, 1 << 32, most - 1, most, most + 1, math.MaxInt64}
}

// rightGoods is goods that are right, those at the edges among them.
func rightGoods() [][]api.Stack {
	return [][]api.Stack{
		nil, {},
		of(0, 1), of(1, 1), of(5, 7), of(255, 3), of(256, 3), of(32768, 5), of(65534, 1), of(65535, 1),
		of(0, most), of(1, most-1), of(65535, most),
		of(0, 1, 1, 1), of(0, most, 65535, most), of(0, 1, 65535, 1), of(65534, 2, 65535, 1), of(255, 9, 256, 8), of(32767, 1, 32768, 1),
		of(1, 3, 5, 2), of(2, 3, 4, most), of(2, 3, 4, most-1),
		of(0, 5, 1, 4, 2, 3, 3, 2, 4, 1), of(0, 1, 7, most, 9, 1, 65535, 2),
		stacks(19, 0, 1), stacks(19, 1, 3), stacks(19, 65517, 1), stacks(19, 65481, 3),
		stacks(20, 0, 1), stacks(20, 1, 1), stacks(20, 1, 3), stacks(20, 2, 2), stacks(20, 0, 3449), stacks(20, 65516, 1), stacks(20, 65515, 1),
		with(stacks(20, 3, 5), 0, api.Stack{Item: 3, Count: most}), with(stacks(20, 3, 5), 19, api.Stack{Item: 98, Count: most}),
		with(stacks(19, 3, 5), 9, api.Stack{Item: 48, Count: most - 1}),
	}
}

// wrongGoods is goods that are not right.
func wrongGoods() [][]api.Stack {
	all := [][]api.Stack{
		// Too many.
		stacks(21, 0, 1), stacks(21, 1, 3), stacks(21, 65515, 1), stacks(22, 0, 1), stacks(40, 0, 1), stacks(256, 0, 1), stacks(257, 1, 1), stacks(65536, 0, 1),
		stacks(21, 5, 0), make([]api.Stack, 21), make([]api.Stack, 20), make([]api.Stack, 65556),
		// Twice the same.
		of(0, 1, 0, 1), of(2, 1, 2, 1), of(2, 1, 2, 2), of(65535, 1, 65535, 1), of(1, 1, 2, 1, 2, 1), of(1, 1, 1, 1, 2, 1), of(1, 1, 2, 1, 1, 1), of(0, 1, 65535, 1, 65535, 1),
		// Falling.
		of(1, 1, 0, 1), of(3, 1, 2, 1), of(65535, 1, 0, 1), of(65535, 1, 65534, 1), of(256, 1, 255, 1), of(1, 1, 3, 1, 2, 1), of(2, 1, 3, 1, 1, 1), of(3, 1, 1, 1, 2, 1), of(65535, 1, 0, 1, 1, 1),
		// Both, and wrong Counts as well.
		of(2, 1, 2, 0), of(3, 0, 2, 1), of(3, -1, 3, 1),
	}
	for _, n := range []int64{0, -1, -most, most + 1, math.MinInt64, math.MaxInt64} {
		all = append(all, of(0, n), of(2, n), of(65535, n), of(2, n, 3, 1), of(2, 1, 3, n), of(2, n, 3, n), of(2, 1, 3, n, 4, 1), of(0, 1, 65535, n))
		for _, at := range []int{0, 9, 19} {
			all = append(all, with(stacks(20, 2, 7), at, api.Stack{Item: uint16(2 + 7*at), Count: n}))
		}
	}
	return all
}

// allGoods is goods that are right, and goods that are not.
func allGoods() [][]api.Stack {
	return slices.Concat(rightGoods(), wrongGoods())
}

// itemsAbout is the items of goods, those beside them, and those at the ends.
func itemsAbout(l []api.Stack) []uint16 {
	all := []uint16{0, 1, 2, 255, 256, 32768, 65534, 65535}
	for _, s := range l[:min(len(l), 22)] {
		all = append(all, s.Item-1, s.Item, s.Item+1)
	}
	slices.Sort(all)
	return slices.Compact(all)
}

// plainAmount tells whether a number may be a stack's Count, by the chapter's words.
func plainAmount(n int64) bool {
	return n >= 1 && n <= 1152921504606846976
}

// plainRight tells whether goods are right, by the chapter's words.
func plainRight(l []api.Stack) bool {
	for i, s := range l {
		if !plainAmount(s.Count) || i > 0 && l[i-1].Item >= s.Item {
			return false
		}
	}
	return len(l) <= 20
}

// plainCount is how many of an item there are, of the first stack of that item.
func plainCount(l []api.Stack, item uint16) int64 {
	for _, s := range l {
		if s.Item == item {
			return s.Count
		}
	}
	return 0
}

// table is how many there are of each item, and list the goods of a table.
func table(l []api.Stack) map[uint16]int64 {
	m := make(map[uint16]int64)
	for _, s := range l {
		m[s.Item] += s.Count
	}
	return m
}

func list(m map[uint16]int64) []api.Stack {
	var l []api.Stack
	for _, item := range slices.Sorted(maps.Keys(m)) {
		if m[item] != 0 {
			l = append(l, api.Stack{Item: item, Count: m[item]})
		}
	}
	return l
}

// plainGive and plainTake are Give and Take by a table, errors in the order of the promises.
func plainGive(l []api.Stack, s api.Stack) ([]api.Stack, api.Errno) {
	if !plainRight(l) || !plainAmount(s.Count) {
		return nil, api.ErrGoods
	}
	m := table(l)
	m[s.Item] += s.Count
	switch {
	case m[s.Item] > most:
		return nil, api.ErrOverflow
	case len(m) > 20:
		return nil, api.ErrSlots
	}
	return list(m), api.OK
}

func plainTake(l []api.Stack, s api.Stack) ([]api.Stack, api.Errno) {
	if !plainRight(l) || !plainAmount(s.Count) {
		return nil, api.ErrGoods
	}
	m := table(l)
	m[s.Item] -= s.Count
	if m[s.Item] < 0 {
		return nil, api.ErrStock
	}
	return list(m), api.OK
}

func plainMove(a, b []api.Stack, s api.Stack) ([]api.Stack, []api.Stack, api.Errno) {
	left, e := plainTake(a, s)
	if e != api.OK {
		return nil, nil, e
	}
	given, e := plainGive(b, s)
	if e != api.OK {
		return nil, nil, e
	}
	return left, given, api.OK
}

// one is a work of goods and a stack, and what is asked of it.
type one struct {
	name string
	work func(l []api.Stack, s api.Stack) ([]api.Stack, api.Errno)
	want func(l []api.Stack, s api.Stack) ([]api.Stack, api.Errno)
}

func give() one { return one{"Give", goods.Give, plainGive} }

func take() one { return one{"Take", goods.Take, plainTake} }

// wantDone checks what a work answers, and that the goods are what they were. Beside an error there are none.
func (w one) wantDone(t *testing.T, l []api.Stack, s api.Stack, want []api.Stack, e api.Errno) {
	t.Helper()
	was := clone(l)
	n, f := w.work(l, s)
	if !slices.Equal(n, want) || f != e {
		t.Fatalf("%s(%v, %v): %v %v, want %v %v", w.name, brief(l), s, brief(n), f, brief(want), e)
	}
	if !slices.Equal(l, was) {
		t.Fatalf("%s(%v, %v) changed them: %v", w.name, brief(was), s, brief(l))
	}
}

// wantAsTold checks that a work answers what the plain one does, and tells which error that is.
func (w one) wantAsTold(t *testing.T, l []api.Stack, s api.Stack) api.Errno {
	t.Helper()
	want, e := w.want(l, s)
	w.wantDone(t, l, s, want, e)
	return e
}

// done is what a work answers, which must not be refused.
func (w one) done(t *testing.T, l []api.Stack, s api.Stack) []api.Stack {
	t.Helper()
	n, e := w.work(l, s)
	if e != api.OK {
		t.Fatalf("%s(%v, %v): %v", w.name, brief(l), s, e)
	}
	return n
}

// wantMoved checks what Move answers, and that both goods are what they were. Beside an error there are none.
func wantMoved(t *testing.T, a, b []api.Stack, s api.Stack, left, given []api.Stack, e api.Errno) {
	t.Helper()
	wasA, wasB := clone(a), clone(b)
	m, n, f := goods.Move(a, b, s)
	if !slices.Equal(m, left) || !slices.Equal(n, given) || f != e {
		t.Fatalf("Move(%v, %v, %v): %v %v %v, want %v %v %v", brief(a), brief(b), s, brief(m), brief(n), f, brief(left), brief(given), e)
	}
	if !slices.Equal(a, wasA) || !slices.Equal(b, wasB) {
		t.Fatalf("Move(%v, %v, %v) changed them: %v, %v", brief(wasA), brief(wasB), s, brief(a), brief(b))
	}
}
