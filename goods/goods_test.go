package goods_test

import (
	"math"
	"slices"
	"testing"

	"bazaar/api"
	"bazaar/goods"
)

// P12.1: Right.

func TestRight(t *testing.T) {
	for _, l := range rightGoods() {
		if !goods.Right(l) {
			t.Errorf("not right: %v", brief(l))
		}
	}
	for _, l := range wrongGoods() {
		if goods.Right(l) {
			t.Errorf("right: %v", brief(l))
		}
	}
}

// The lists of the tests are what they are called.
func TestRightByPlainWords(t *testing.T) {
	for _, l := range allGoods() {
		if goods.Right(l) != plainRight(l) {
			t.Errorf("Right(%v): %v", brief(l), goods.Right(l))
		}
	}
}

func TestRightOfManyStacks(t *testing.T) {
	for n := range 300 {
		for _, from := range []int{0, 1, 2, 65236} {
			if l := stacks(n, from, 1); goods.Right(l) != (n <= 20) {
				t.Fatalf("%d stacks from %d on: %v", n, from, goods.Right(l))
			}
		}
	}
}

func TestRightOfOneStack(t *testing.T) {
	for item := range int64(65536) {
		for _, n := range []int64{0, 1, most, most + 1} {
			if l := of(item, n); goods.Right(l) != (n == 1 || n == most) {
				t.Fatalf("Right(%v): %v", l, goods.Right(l))
			}
		}
	}
	for _, n := range counts() {
		if l := of(7, n); goods.Right(l) != plainAmount(n) {
			t.Fatalf("Right(%v): %v", l, goods.Right(l))
		}
	}
}

// All lists of up to 3 stacks of a few items and Counts.
func TestRightOfAllShortLists(t *testing.T) {
	var few []api.Stack
	for _, item := range []uint16{0, 1, 2, 65534, 65535} {
		for _, n := range []int64{-1, 0, 1, most, most + 1} {
			few = append(few, api.Stack{Item: item, Count: n})
		}
	}
	right := 0
	for _, a := range few {
		for _, b := range few {
			for _, c := range few {
				for _, l := range [][]api.Stack{{a, b}, {a, b, c}} {
					if goods.Right(l) != plainRight(l) {
						t.Fatalf("Right(%v): %v", l, goods.Right(l))
					}
					if goods.Right(l) {
						right++
					}
				}
			}
		}
	}
	// Of 5 items, of 2 right Counts each: 10 twos (told once for each third stack), 10 threes.
	if right != 10*4*25+10*8 {
		t.Errorf("%d are right", right)
	}
}

// A single wrong Count, or item, is found wherever it stands.
func TestRightOfOneWrongStackOfMany(t *testing.T) {
	for n := 1; n <= 20; n++ {
		l := stacks(n, 10, 2)
		for at := range n {
			s := l[at]
			for _, count := range counts() {
				if m := with(l, at, api.Stack{Item: s.Item, Count: count}); goods.Right(m) != plainAmount(count) {
					t.Fatalf("Right(%v): %v", brief(m), goods.Right(m))
				}
			}
			for item := range uint16(60) {
				m := with(l, at, api.Stack{Item: item, Count: 1})
				if goods.Right(m) != plainRight(m) {
					t.Fatalf("Right(%v): %v", brief(m), goods.Right(m))
				}
			}
		}
	}
}

// P12.1: Count.

func TestCountByHand(t *testing.T) {
	for _, c := range []struct {
		l    []api.Stack
		item uint16
		n    int64
	}{
		{nil, 0, 0},
		{nil, 65535, 0},
		{[]api.Stack{}, 0, 0},
		{of(1, 3, 5, 2), 1, 3},
		{of(1, 3, 5, 2), 5, 2},
		{of(1, 3, 5, 2), 0, 0},
		{of(1, 3, 5, 2), 2, 0},
		{of(1, 3, 5, 2), 6, 0},
		{of(1, 3, 5, 2), 257, 0},
		{of(1, 3, 5, 2), 65535, 0},
		{of(1, 3, 5, 2, 9, most), 5, 2},
		{of(1, 3, 5, 2, 9, most), 9, most},
		{of(0, 4, 65535, 6), 0, 4},
		{of(0, 4, 65535, 6), 65535, 6},
		// Of goods that are not right: the first stack's, be it an amount or not.
		{of(2, 3, 2, 5), 2, 3},
		{of(2, 0, 2, 5), 2, 0},
		{of(2, -7, 2, 5), 2, -7},
		{of(0, 0, 0, 5), 0, 0},
		{of(0, most+1, 0, 5), 0, most + 1},
		{of(9, 1, 2, 4, 5, 6, 2, 8), 2, 4},
		{of(9, 1, 2, 4, 5, 6, 2, 8), 5, 6},
		{of(9, 1, 2, 4, 5, 6, 2, 8), 9, 1},
		{of(9, 1, 2, 4, 5, 6, 2, 8), 7, 0},
		{of(5, 1, 3, math.MinInt64), 3, math.MinInt64},
		{of(5, 1, 3, math.MaxInt64), 3, math.MaxInt64},
		{of(65535, 1, 0, 2), 0, 2},
	} {
		if n := goods.Count(c.l, c.item); n != c.n {
			t.Errorf("Count(%v, %d): %d, want %d", c.l, c.item, n, c.n)
		}
	}
}

func TestCountOfAllItems(t *testing.T) {
	for _, l := range [][]api.Stack{nil, of(0, 3), of(65535, 4), of(1, 3, 5, 2, 300, 7), stacks(20, 2, 3), stacks(20, 0, 3449), of(9, 1, 2, 4, 9, 5)} {
		for item := range 65536 {
			if n := goods.Count(l, uint16(item)); n != plainCount(l, uint16(item)) {
				t.Fatalf("Count(%v, %d): %d", brief(l), item, n)
			}
		}
	}
}

func TestCount(t *testing.T) {
	for _, l := range allGoods() {
		was := clone(l)
		for _, item := range itemsAbout(l) {
			if n := goods.Count(l, item); n != plainCount(l, item) {
				t.Fatalf("Count(%v, %d): %d", brief(l), item, n)
			}
		}
		if !slices.Equal(l, was) {
			t.Fatalf("Count changed %v", brief(was))
		}
	}
}

// Far more stacks than there may be are counted, too.
func TestCountOfManyStacks(t *testing.T) {
	l := stacks(65536, 0, 1)
	for item, s := range l {
		if item%501 == 0 || item > 65530 {
			if n := goods.Count(l, uint16(item)); n != s.Count {
				t.Fatalf("Count of %d: %d", item, n)
			}
		}
	}
}

// P12.1: Give.

func TestGiveByHand(t *testing.T) {
	for _, c := range []struct {
		l    []api.Stack
		s    api.Stack
		want []api.Stack
		e    api.Errno
	}{
		// A stack that is there has more.
		{of(1, 3, 5, 2), api.Stack{Item: 1, Count: 4}, of(1, 7, 5, 2), api.OK},
		{of(1, 3, 5, 2), api.Stack{Item: 5, Count: 1}, of(1, 3, 5, 3), api.OK},
		{of(1, 3, 5, 2, 9, 1), api.Stack{Item: 5, Count: 8}, of(1, 3, 5, 10, 9, 1), api.OK},
		{of(0, 1), api.Stack{Item: 0, Count: 1}, of(0, 2), api.OK},
		{of(65535, 1), api.Stack{Item: 65535, Count: 1}, of(65535, 2), api.OK},
		// A new one: into nothing, ahead of all, between two, behind all.
		{nil, api.Stack{Item: 0, Count: 1}, of(0, 1), api.OK},
		{nil, api.Stack{Item: 7, Count: 5}, of(7, 5), api.OK},
		{[]api.Stack{}, api.Stack{Item: 65535, Count: most}, of(65535, most), api.OK},
		{of(1, 3, 5, 2), api.Stack{Item: 0, Count: 4}, of(0, 4, 1, 3, 5, 2), api.OK},
		{of(1, 3, 5, 2), api.Stack{Item: 2, Count: 4}, of(1, 3, 2, 4, 5, 2), api.OK},
		{of(1, 3, 5, 2), api.Stack{Item: 4, Count: 4}, of(1, 3, 4, 4, 5, 2), api.OK},
		{of(1, 3, 5, 2), api.Stack{Item: 6, Count: 4}, of(1, 3, 5, 2, 6, 4), api.OK},
		{of(1, 3, 5, 2), api.Stack{Item: 65535, Count: 4}, of(1, 3, 5, 2, 65535, 4), api.OK},
		{of(255, 3, 257, 2), api.Stack{Item: 256, Count: 1}, of(255, 3, 256, 1, 257, 2), api.OK},
		{of(32767, 3, 40000, 2), api.Stack{Item: 32768, Count: 1}, of(32767, 3, 32768, 1, 40000, 2), api.OK},
		{of(65534, 1), api.Stack{Item: 65535, Count: 1}, of(65534, 1, 65535, 1), api.OK},
		{of(0, 1, 65535, 1), api.Stack{Item: 1, Count: 2}, of(0, 1, 1, 2, 65535, 1), api.OK},
		// Just an amount, and one more.
		{of(1, 1), api.Stack{Item: 1, Count: most - 1}, of(1, most), api.OK},
		{of(1, most-1), api.Stack{Item: 1, Count: 1}, of(1, most), api.OK},
		{of(1, most/2, 2, 1), api.Stack{Item: 1, Count: most / 2}, of(1, most, 2, 1), api.OK},
		{of(2, most, 4, 1), api.Stack{Item: 3, Count: most}, of(2, most, 3, most, 4, 1), api.OK},
		{of(1, most), api.Stack{Item: 1, Count: 1}, nil, api.ErrOverflow},
		{of(1, 1), api.Stack{Item: 1, Count: most}, nil, api.ErrOverflow},
		{of(1, most-1), api.Stack{Item: 1, Count: 2}, nil, api.ErrOverflow},
		{of(1, most/2+1, 2, 1), api.Stack{Item: 1, Count: most / 2}, nil, api.ErrOverflow},
		{of(0, 1, 1, most), api.Stack{Item: 1, Count: most}, nil, api.ErrOverflow},
		// No Count of a stack.
		{of(1, 3), api.Stack{Item: 1}, nil, api.ErrGoods},
		{of(1, 3), api.Stack{Item: 2}, nil, api.ErrGoods},
		{nil, api.Stack{}, nil, api.ErrGoods},
		{nil, api.Stack{Item: 2, Count: -1}, nil, api.ErrGoods},
		{of(1, 3), api.Stack{Item: 1, Count: -1}, nil, api.ErrGoods},
		{of(1, 3), api.Stack{Item: 1, Count: -3}, nil, api.ErrGoods},
		{of(1, 3), api.Stack{Item: 1, Count: most + 1}, nil, api.ErrGoods},
		{of(1, most), api.Stack{Item: 1, Count: most + 1}, nil, api.ErrGoods},
		{of(1, 3), api.Stack{Item: 1, Count: math.MaxInt64}, nil, api.ErrGoods},
		{of(1, 3), api.Stack{Item: 1, Count: math.MinInt64}, nil, api.ErrGoods},
		// No goods.
		{of(2, 0), api.Stack{Item: 9, Count: 1}, nil, api.ErrGoods},
		{of(2, 0), api.Stack{Item: 2, Count: 1}, nil, api.ErrGoods},
		{of(2, -1), api.Stack{Item: 2, Count: 2}, nil, api.ErrGoods},
		{of(2, most+1), api.Stack{Item: 2, Count: 1}, nil, api.ErrGoods},
		{of(2, 1, 2, 1), api.Stack{Item: 9, Count: 1}, nil, api.ErrGoods},
		{of(2, most, 2, 1), api.Stack{Item: 2, Count: 1}, nil, api.ErrGoods},
		{of(3, 1, 2, 1), api.Stack{Item: 2, Count: 1}, nil, api.ErrGoods},
		{of(1, most, 3, 0), api.Stack{Item: 1, Count: 1}, nil, api.ErrGoods},
	} {
		give().wantDone(t, c.l, c.s, c.want, c.e)
	}
}

// Into 19 stacks a new one is given wherever its place is; into 20 none.
func TestGiveAtTheSlots(t *testing.T) {
	for n := range 23 {
		l := stacks(n, 10, 3)
		for item := range int64(90) {
			s := api.Stack{Item: uint16(item), Count: 5}
			is := item >= 10 && item < 10+3*int64(n) && (item-10)%3 == 0
			want := api.OK
			switch {
			case n > 20:
				want = api.ErrGoods
			case n == 20 && !is:
				want = api.ErrSlots
			}
			if e := give().wantAsTold(t, l, s); e != want {
				t.Fatalf("%d stacks, item %d: %v", n, item, e)
			}
		}
	}
}

// With 20 stacks the greatest amount of a new item is refused for want of a slot, and one more of a full stack as too many; there is no stack of which both may be told.
func TestGiveTellsOverflowOrSlots(t *testing.T) {
	var l []api.Stack
	for i := range int64(20) {
		l = append(l, of(10+2*i, most)...)
	}
	for item := range int64(60) {
		want := api.ErrSlots
		if goods.Count(l, uint16(item)) > 0 {
			want = api.ErrOverflow
		}
		for _, n := range []int64{1, 2, most - 1, most} {
			give().wantDone(t, l, of(item, n)[0], nil, want)
		}
		for _, n := range []int64{math.MinInt64, -1, 0, most + 1, math.MaxInt64} {
			give().wantDone(t, l, of(item, n)[0], nil, api.ErrGoods)
		}
	}
	// With 19 the same is given, or too many.
	for item := range int64(60) {
		want := api.OK
		if goods.Count(l[:19], uint16(item)) > 0 {
			want = api.ErrOverflow
		}
		if e := give().wantAsTold(t, l[:19], of(item, most)[0]); e != want {
			t.Errorf("item %d: %v", item, e)
		}
	}
}

// Goods that are not right are that ahead of all else.
func TestGiveOfTooManyStacks(t *testing.T) {
	for _, n := range []int{21, 22, 100, 65536} {
		l := stacks(n, 0, 1)
		l[3].Count = most
		for _, item := range []uint16{0, 3, 20, 21, 65535} {
			give().wantDone(t, l, api.Stack{Item: item, Count: 1}, nil, api.ErrGoods)
		}
	}
}

// P12.2: Take.

func TestTakeByHand(t *testing.T) {
	for _, c := range []struct {
		l    []api.Stack
		s    api.Stack
		want []api.Stack
		e    api.Errno
	}{
		// Fewer than there are.
		{of(1, 3, 5, 2), api.Stack{Item: 1, Count: 1}, of(1, 2, 5, 2), api.OK},
		{of(1, 3, 5, 2), api.Stack{Item: 1, Count: 2}, of(1, 1, 5, 2), api.OK},
		{of(1, 3, 5, 2), api.Stack{Item: 5, Count: 1}, of(1, 3, 5, 1), api.OK},
		{of(1, 3, 5, 2, 9, 1), api.Stack{Item: 5, Count: 1}, of(1, 3, 5, 1, 9, 1), api.OK},
		{of(0, most), api.Stack{Item: 0, Count: 1}, of(0, most-1), api.OK},
		{of(0, most), api.Stack{Item: 0, Count: most - 1}, of(0, 1), api.OK},
		{of(0, 2, 65535, 2), api.Stack{Item: 65535, Count: 1}, of(0, 2, 65535, 1), api.OK},
		// All: the stack is gone.
		{of(1, 3), api.Stack{Item: 1, Count: 3}, nil, api.OK},
		{of(0, 1), api.Stack{Item: 0, Count: 1}, nil, api.OK},
		{of(65535, most), api.Stack{Item: 65535, Count: most}, nil, api.OK},
		{of(1, 3, 5, 2), api.Stack{Item: 1, Count: 3}, of(5, 2), api.OK},
		{of(1, 3, 5, 2), api.Stack{Item: 5, Count: 2}, of(1, 3), api.OK},
		{of(1, 3, 5, 2, 9, 1), api.Stack{Item: 5, Count: 2}, of(1, 3, 9, 1), api.OK},
		{of(0, 1, 1, 1, 2, 1), api.Stack{Item: 0, Count: 1}, of(1, 1, 2, 1), api.OK},
		{of(0, 1, 65535, 1), api.Stack{Item: 65535, Count: 1}, of(0, 1), api.OK},
		// More than there are.
		{of(1, 3, 5, 2), api.Stack{Item: 1, Count: 4}, nil, api.ErrStock},
		{of(1, 3, 5, 2), api.Stack{Item: 5, Count: 3}, nil, api.ErrStock},
		{of(1, 3, 5, 2), api.Stack{Item: 5, Count: most}, nil, api.ErrStock},
		{of(1, most-1), api.Stack{Item: 1, Count: most}, nil, api.ErrStock},
		// Of an item that is not there.
		{nil, api.Stack{Item: 0, Count: 1}, nil, api.ErrStock},
		{[]api.Stack{}, api.Stack{Item: 65535, Count: most}, nil, api.ErrStock},
		{of(1, 3, 5, 2), api.Stack{Item: 0, Count: 1}, nil, api.ErrStock},
		{of(1, 3, 5, 2), api.Stack{Item: 2, Count: 1}, nil, api.ErrStock},
		{of(1, 3, 5, 2), api.Stack{Item: 6, Count: 1}, nil, api.ErrStock},
		{of(1, 3, 5, 2), api.Stack{Item: 257, Count: 1}, nil, api.ErrStock},
		{of(1, 3, 5, 2), api.Stack{Item: 65535, Count: 1}, nil, api.ErrStock},
		{stacks(20, 1, 1), api.Stack{Item: 0, Count: 1}, nil, api.ErrStock},
		// No Count of a stack.
		{of(1, 3), api.Stack{Item: 1}, nil, api.ErrGoods},
		{of(1, 3), api.Stack{Item: 2}, nil, api.ErrGoods},
		{nil, api.Stack{}, nil, api.ErrGoods},
		{of(1, 3), api.Stack{Item: 1, Count: -1}, nil, api.ErrGoods},
		{of(1, 3), api.Stack{Item: 2, Count: -1}, nil, api.ErrGoods},
		{of(1, 3), api.Stack{Item: 1, Count: most + 1}, nil, api.ErrGoods},
		{of(1, 3), api.Stack{Item: 2, Count: most + 1}, nil, api.ErrGoods},
		{of(1, 3), api.Stack{Item: 1, Count: math.MaxInt64}, nil, api.ErrGoods},
		{of(1, 3), api.Stack{Item: 1, Count: math.MinInt64}, nil, api.ErrGoods},
		// No goods.
		{of(2, 0), api.Stack{Item: 2, Count: 1}, nil, api.ErrGoods},
		{of(2, -1), api.Stack{Item: 2, Count: 1}, nil, api.ErrGoods},
		{of(2, most+1), api.Stack{Item: 2, Count: 1}, nil, api.ErrGoods},
		{of(2, 1, 2, 1), api.Stack{Item: 2, Count: 1}, nil, api.ErrGoods},
		{of(2, 1, 2, 1), api.Stack{Item: 3, Count: 1}, nil, api.ErrGoods},
		{of(3, 1, 2, 1), api.Stack{Item: 2, Count: 1}, nil, api.ErrGoods},
		{of(1, 5, 3, 0), api.Stack{Item: 1, Count: 1}, nil, api.ErrGoods},
		{stacks(21, 0, 1), api.Stack{Item: 0, Count: 1}, nil, api.ErrGoods},
		{stacks(21, 0, 1), api.Stack{Item: 20, Count: 1}, nil, api.ErrGoods},
		{stacks(65536, 0, 1), api.Stack{Item: 7, Count: 1}, nil, api.ErrGoods},
	} {
		take().wantDone(t, c.l, c.s, c.want, c.e)
	}
}

// Each stack of up to 20: fewer, all, one more.
func TestTakeOfEachStack(t *testing.T) {
	for n := 1; n <= 20; n++ {
		l := stacks(n, 0, 2)
		for at, s := range l {
			without := slices.Concat(l[:at], l[at+1:])
			take().wantDone(t, l, s, without, api.OK)
			take().wantDone(t, l, api.Stack{Item: s.Item, Count: s.Count + 1}, nil, api.ErrStock)
			take().wantDone(t, l, api.Stack{Item: s.Item + 1, Count: 1}, nil, api.ErrStock)
			for k := int64(1); k < s.Count; k++ {
				take().wantDone(t, l, api.Stack{Item: s.Item, Count: k}, with(l, at, api.Stack{Item: s.Item, Count: s.Count - k}), api.OK)
			}
		}
	}
}

// All goods, items about theirs and Counts, given and taken.
func TestAllGoods(t *testing.T) {
	for _, w := range []one{give(), take()} {
		told := make(map[api.Errno]int)
		for _, l := range allGoods() {
			for _, item := range itemsAbout(l) {
				for _, n := range append(counts(), goods.Count(l, item), goods.Count(l, item)+1, goods.Count(l, item)-1) {
					told[w.wantAsTold(t, l, api.Stack{Item: item, Count: n})]++
				}
			}
		}
		want := []api.Errno{api.OK, api.ErrGoods, api.ErrStock}
		if w.name == "Give" {
			want = []api.Errno{api.OK, api.ErrGoods, api.ErrOverflow, api.ErrSlots}
		}
		for _, e := range want {
			if told[e] == 0 {
				t.Errorf("%s: %v is not told", w.name, e)
			}
			delete(told, e)
		}
		if len(told) != 0 {
			t.Errorf("%s: %v", w.name, told)
		}
	}
}

// All items, given into goods and taken from them.
func TestAllItems(t *testing.T) {
	l := of(0, 1, 1, 9, 255, 3, 256, 4, 32768, 5, 65535, 2)
	for item := range 65536 {
		s := api.Stack{Item: uint16(item), Count: 2}
		give().wantAsTold(t, l, s)
		take().wantAsTold(t, l, s)
	}
}

// P12.2: Move.

func TestMoveByHand(t *testing.T) {
	full := stacks(20, 10, 2)
	for _, c := range []struct {
		a, b        []api.Stack
		s           api.Stack
		left, given []api.Stack
		e           api.Errno
	}{
		{of(1, 3, 5, 2), nil, api.Stack{Item: 1, Count: 1}, of(1, 2, 5, 2), of(1, 1), api.OK},
		{of(1, 3, 5, 2), nil, api.Stack{Item: 1, Count: 3}, of(5, 2), of(1, 3), api.OK},
		{of(1, 3), of(1, 4), api.Stack{Item: 1, Count: 2}, of(1, 1), of(1, 6), api.OK},
		{of(1, 3), of(1, 4), api.Stack{Item: 1, Count: 3}, nil, of(1, 7), api.OK},
		{of(0, 3), of(65535, 4), api.Stack{Item: 0, Count: 3}, nil, of(0, 3, 65535, 4), api.OK},
		{of(65535, 3), of(0, 4), api.Stack{Item: 65535, Count: 1}, of(65535, 2), of(0, 4, 65535, 1), api.OK},
		{of(2, 1, 4, 1, 6, 1), of(3, 1, 5, 1), api.Stack{Item: 4, Count: 1}, of(2, 1, 6, 1), of(3, 1, 4, 1, 5, 1), api.OK},
		{of(1, most), nil, api.Stack{Item: 1, Count: most}, nil, of(1, most), api.OK},
		{of(1, most), of(1, 1), api.Stack{Item: 1, Count: most - 1}, of(1, 1), of(1, most), api.OK},
		{full, full[:19], api.Stack{Item: 48, Count: 1}, with(full, 19, api.Stack{Item: 48, Count: full[19].Count - 1}), append(clone(full[:19]), api.Stack{Item: 48, Count: 1}), api.OK},
		{of(12, 3), full, api.Stack{Item: 12, Count: 3}, nil, with(full, 1, api.Stack{Item: 12, Count: full[1].Count + 3}), api.OK},
		{full, nil, full[0], full[1:], full[:1], api.OK},
		// Each error alone.
		{of(1, 3), nil, api.Stack{Item: 1, Count: 4}, nil, nil, api.ErrStock},
		{nil, of(1, 3), api.Stack{Item: 1, Count: 1}, nil, nil, api.ErrStock},
		{nil, nil, api.Stack{Item: 1, Count: 1}, nil, nil, api.ErrStock},
		{of(1, 3), of(1, most), api.Stack{Item: 1, Count: 1}, nil, nil, api.ErrOverflow},
		{of(1, most), of(1, 1), api.Stack{Item: 1, Count: most}, nil, nil, api.ErrOverflow},
		{of(1, 3), full, api.Stack{Item: 1, Count: 1}, nil, nil, api.ErrSlots},
		{of(11, 3), full, api.Stack{Item: 11, Count: 3}, nil, nil, api.ErrSlots},
		{of(1, 3), nil, api.Stack{Item: 1}, nil, nil, api.ErrGoods},
		{of(1, 3), nil, api.Stack{Item: 1, Count: -1}, nil, nil, api.ErrGoods},
		{of(1, 3), nil, api.Stack{Item: 1, Count: most + 1}, nil, nil, api.ErrGoods},
		// One of both is not right.
		{of(1, 0), nil, api.Stack{Item: 1, Count: 1}, nil, nil, api.ErrGoods},
		{of(1, 3, 1, 3), of(2, 1), api.Stack{Item: 1, Count: 1}, nil, nil, api.ErrGoods},
		{of(1, 3), of(2, 0), api.Stack{Item: 1, Count: 1}, nil, nil, api.ErrGoods},
		{of(1, 3), of(3, 1, 2, 1), api.Stack{Item: 1, Count: 3}, nil, nil, api.ErrGoods},
		{of(1, 3), stacks(21, 0, 1), api.Stack{Item: 1, Count: 3}, nil, nil, api.ErrGoods},
		{stacks(21, 0, 1), of(1, 3), api.Stack{Item: 1, Count: 1}, nil, nil, api.ErrGoods},
	} {
		wantMoved(t, c.a, c.b, c.s, c.left, c.given, c.e)
	}
}

// Where an error of both applies, it is the one of what is taken.
func TestMoveTellsTheFirstError(t *testing.T) {
	full, wrong := stacks(20, 10, 2), of(3, 1, 2, 1)
	for _, c := range []struct {
		a, b []api.Stack
		s    api.Stack
		e    api.Errno
	}{
		{of(1, 3), of(1, most), api.Stack{Item: 1, Count: 4}, api.ErrStock},
		{of(2, 3), of(1, most), api.Stack{Item: 1, Count: 1}, api.ErrStock},
		{of(1, 3), full, api.Stack{Item: 1, Count: 4}, api.ErrStock},
		{nil, full, api.Stack{Item: 1, Count: 1}, api.ErrStock},
		{of(1, 3), wrong, api.Stack{Item: 1, Count: 4}, api.ErrStock},
		{nil, stacks(21, 0, 1), api.Stack{Item: 1, Count: 1}, api.ErrStock},
		{nil, of(1, 0), api.Stack{Item: 1, Count: most}, api.ErrStock},
		{wrong, of(2, most), api.Stack{Item: 2, Count: 1}, api.ErrGoods},
		{wrong, full, api.Stack{Item: 2, Count: 1}, api.ErrGoods},
		{wrong, wrong, api.Stack{Item: 2, Count: 1}, api.ErrGoods},
		{nil, full, api.Stack{Item: 1, Count: 0}, api.ErrGoods},
		{of(1, most), of(1, most), api.Stack{Item: 1, Count: most + 1}, api.ErrGoods},
		{of(1, 3), full, api.Stack{Item: 1, Count: math.MinInt64}, api.ErrGoods},
	} {
		wantMoved(t, c.a, c.b, c.s, nil, nil, c.e)
	}
}

// The same goods twice: one answer is of what is taken, the other one of what is given, and neither of both.
func TestMoveOfTheSameGoods(t *testing.T) {
	l := of(1, 3, 5, 2)
	wantMoved(t, l, l, api.Stack{Item: 1, Count: 1}, of(1, 2, 5, 2), of(1, 4, 5, 2), api.OK)
	wantMoved(t, l, l, api.Stack{Item: 5, Count: 2}, of(1, 3), of(1, 3, 5, 4), api.OK)
	wantMoved(t, l, l, api.Stack{Item: 5, Count: 3}, nil, nil, api.ErrStock)
	wantMoved(t, l, l, api.Stack{Item: 2, Count: 1}, nil, nil, api.ErrStock)
	wantMoved(t, l, l[:1], api.Stack{Item: 5, Count: 2}, of(1, 3), of(1, 3, 5, 2), api.OK)
	wantMoved(t, l[1:], l, api.Stack{Item: 5, Count: 2}, nil, of(1, 3, 5, 4), api.OK)
	full := stacks(20, 0, 1)
	for at, s := range full {
		wantMoved(t, full, full, s, slices.Concat(full[:at], full[at+1:]), with(full, at, api.Stack{Item: s.Item, Count: 2 * s.Count}), api.OK)
	}
	half := of(7, most/2+1)
	wantMoved(t, half, half, half[0], nil, nil, api.ErrOverflow)
	wantMoved(t, half, half, api.Stack{Item: 7, Count: most/2 - 1}, of(7, 2), of(7, most), api.OK)
	for _, w := range wrongGoods() {
		wantMoved(t, w, w, api.Stack{Item: 2, Count: 1}, nil, nil, api.ErrGoods)
	}
}

func TestAllMoves(t *testing.T) {
	told := make(map[api.Errno]int)
	for _, a := range allGoods() {
		for _, b := range allGoods() {
			if len(a) > 300 || len(b) > 300 {
				continue // These are refused alike, but take long to be held against what they were.
			}
			for _, item := range []uint16{0, 1, 2, 5, 9, 65535} {
				for _, n := range []int64{0, 1, 3, most, most + 1} {
					s := api.Stack{Item: item, Count: n}
					left, given, e := plainMove(a, b, s)
					wantMoved(t, a, b, s, left, given, e)
					told[e]++
				}
			}
		}
	}
	for _, e := range []api.Errno{api.OK, api.ErrGoods, api.ErrStock, api.ErrOverflow, api.ErrSlots} {
		if told[e] == 0 {
			t.Errorf("%v is not told", e)
		}
	}
}

// R3: what is answered shares no list, and no spare room, with what was handed in, nor two lists of an answer any.

// roomy is the same goods, with room behind them that is not empty, and all the memory of these.
func roomy(l []api.Stack) ([]api.Stack, []api.Stack) {
	all := slices.Concat(l, of(65535, 91, 65535, 92, 65535, 93))
	return all[:len(l)], all
}

// fill writes junk into goods, and into the room behind them.
func fill(l []api.Stack) {
	l = l[:cap(l)]
	for i := range l {
		l[i] = api.Stack{Item: 7777, Count: -7}
	}
}

// wantApart checks that what a call answers shares no memory with what it is handed, nor with another answer.
func wantApart(t *testing.T, a, b []api.Stack, call func(a, b []api.Stack) [][]api.Stack) {
	t.Helper()
	a, allA := roomy(a)
	b, allB := roomy(b)
	wasA, wasB := clone(allA), clone(allB)
	first, second := call(a, b), call(a, b)
	var want [][]api.Stack
	for _, l := range first {
		want = append(want, clone(l))
	}
	check := func(what string) {
		t.Helper()
		for i, l := range first {
			if !slices.Equal(l, want[i]) {
				t.Fatalf("%v, %v, %s: answer %d shares memory: %v", brief(a), brief(b), what, i, brief(l))
			}
		}
		if !slices.Equal(allA, wasA) || !slices.Equal(allB, wasB) {
			t.Fatalf("%v, or %v, is changed, or its room: %s", brief(wasA), brief(wasB), what)
		}
	}
	check("called")
	for _, l := range second {
		fill(l)
	}
	check("another answer filled")
	for i, l := range first {
		fill(l)
		want[i] = clone(l)
		check("one list of the answer filled")
	}
	fill(allA)
	fill(allB)
	wasA, wasB = clone(allA), clone(allB)
	check("what was handed in filled")
}

func TestAnswersShareNoList(t *testing.T) {
	for _, l := range allGoods() {
		if len(l) > 300 {
			continue
		}
		for _, item := range itemsAbout(l) {
			for _, n := range []int64{0, 1, 2, goods.Count(l, item), most} {
				s := api.Stack{Item: item, Count: n}
				wantApart(t, l, nil, func(a, b []api.Stack) [][]api.Stack {
					given, _ := goods.Give(a, s)
					taken, _ := goods.Take(a, s)
					return [][]api.Stack{given, taken}
				})
				for _, other := range [][]api.Stack{nil, l, of(int64(item), 3), stacks(19, 2, 5), stacks(20, 2, 5)} {
					move := func(a, b []api.Stack) [][]api.Stack {
						left, given, _ := goods.Move(a, b, s)
						return [][]api.Stack{left, given}
					}
					wantApart(t, l, other, move)
					wantApart(t, other, l, move)
				}
			}
		}
		wantApart(t, l, nil, func(a, b []api.Stack) [][]api.Stack {
			goods.Right(a)
			goods.Count(a, 3)
			return nil
		})
	}
}

// The same list as both goods, or cuts of one list.
func TestAnswersOfOneListShareNone(t *testing.T) {
	for _, l := range rightGoods() {
		for at, s := range l {
			wantApart(t, l, nil, func(a, b []api.Stack) [][]api.Stack {
				left, given, _ := goods.Move(a, a, api.Stack{Item: s.Item, Count: 1})
				more, fewer, _ := goods.Move(a[at:], a[:at], s)
				return [][]api.Stack{left, given, more, fewer}
			})
		}
	}
}

// P12.3.

// wantNoOthers checks that goods have the same of all other items as before.
func wantNoOthers(t *testing.T, was, l []api.Stack, item uint16) {
	t.Helper()
	for _, other := range slices.Concat(was, l) {
		if other.Item != item && goods.Count(l, other.Item) != goods.Count(was, other.Item) {
			t.Fatalf("%v: item %d is touched beside %d: %v", brief(was), other.Item, item, brief(l))
		}
	}
}

func TestWhatIsMovedIsNeitherMoreNorLess(t *testing.T) {
	moved := 0
	for _, a := range rightGoods() {
		for _, b := range rightGoods() {
			for _, item := range itemsAbout(a) {
				has := goods.Count(a, item)
				for _, n := range []int64{1, 2, has / 2, has} {
					left, given, e := goods.Move(a, b, api.Stack{Item: item, Count: n})
					if e != api.OK {
						continue
					}
					moved++
					if goods.Count(left, item) != has-n || goods.Count(given, item) != goods.Count(b, item)+n {
						t.Fatalf("Move(%v, %v, %d of %d): %v %v", brief(a), brief(b), n, item, brief(left), brief(given))
					}
					if !goods.Right(left) || !goods.Right(given) {
						t.Fatalf("Move(%v, %v, %d of %d): not right: %v %v", brief(a), brief(b), n, item, brief(left), brief(given))
					}
					wantNoOthers(t, a, left, item)
					wantNoOthers(t, b, given, item)
				}
			}
		}
	}
	if moved < 1000 {
		t.Errorf("%d moves were done", moved)
	}
}

// What is moved back leaves both as they were, if there is a slot for it.
func TestWhatIsMovedBack(t *testing.T) {
	for _, a := range rightGoods() {
		for _, b := range rightGoods() {
			for _, s := range a {
				left, given, e := goods.Move(a, b, s)
				if e != api.OK {
					continue
				}
				wantMoved(t, given, left, s, b, a, api.OK)
			}
		}
	}
}

// What is given and taken again is what it was, and what is taken and given again, too.
func TestGivenAndTakenAgain(t *testing.T) {
	for _, l := range rightGoods() {
		for _, item := range itemsAbout(l) {
			for _, n := range append(counts(), goods.Count(l, item)) {
				s := api.Stack{Item: item, Count: n}
				if given, e := goods.Give(l, s); e == api.OK {
					wantNoOthers(t, l, given, item)
					take().wantDone(t, given, s, l, api.OK)
				}
				if taken, e := goods.Take(l, s); e == api.OK {
					wantNoOthers(t, l, taken, item)
					give().wantDone(t, taken, s, l, api.OK)
				}
			}
		}
	}
}

// Goods that are filled, stack by stack, in three orders, and emptied again, one by one.
func TestFilledAndEmptied(t *testing.T) {
	for _, order := range []func(i int) int{
		func(i int) int { return i },
		func(i int) int { return 19 - i },
		func(i int) int { return i * 7 % 20 },
	} {
		var l []api.Stack
		for i := range 20 {
			l = give().done(t, l, api.Stack{Item: uint16(order(i) * 3000), Count: 2})
			if len(l) != i+1 || !goods.Right(l) {
				t.Fatalf("%d stacks given: %v", i+1, brief(l))
			}
		}
		give().wantDone(t, l, api.Stack{Item: 1, Count: 2}, nil, api.ErrSlots)
		for i := range 20 {
			s := api.Stack{Item: uint16(order(i) * 3000), Count: 1}
			l = take().done(t, take().done(t, l, s), s)
			if len(l) != 19-i || !goods.Right(l) {
				t.Fatalf("%d stacks taken: %v", i+1, brief(l))
			}
			take().wantDone(t, l, s, nil, api.ErrStock)
		}
	}
}

// A long run beside tables: three carriers, among whom things are made, moved and broken; none is lost, and none is more.
func TestALongRun(t *testing.T) {
	var carried [3][]api.Stack
	made := make(map[uint16]int64)
	told := make(map[api.Errno]int)
	seed := uint32(1)
	next := func(n uint32) uint32 {
		seed = seed*1664525 + 1013904223
		return (seed >> 8) % n
	}
	for range 40000 {
		s := api.Stack{Item: uint16(next(26)), Count: int64(next(9))}
		if next(20) == 0 {
			s.Count = most - int64(next(3))
		}
		from, to := next(3), next(3)
		e := api.OK
		switch next(5) {
		case 0:
			if e = give().wantAsTold(t, carried[to], s); e == api.OK {
				carried[to] = give().done(t, carried[to], s)
				made[s.Item] += s.Count
			}
		case 1:
			if e = take().wantAsTold(t, carried[from], s); e == api.OK {
				carried[from] = take().done(t, carried[from], s)
				made[s.Item] -= s.Count
			}
		default:
			if from == to {
				continue
			}
			var left, given []api.Stack
			left, given, e = plainMove(carried[from], carried[to], s)
			wantMoved(t, carried[from], carried[to], s, left, given, e)
			if e == api.OK {
				carried[from], carried[to], _ = goods.Move(carried[from], carried[to], s)
			}
		}
		told[e]++
		for item, n := range made {
			if have := goods.Count(carried[0], item) + goods.Count(carried[1], item) + goods.Count(carried[2], item); have != n {
				t.Fatalf("item %d: %d, made %d", item, have, n)
			}
		}
	}
	for _, e := range []api.Errno{api.OK, api.ErrGoods, api.ErrStock, api.ErrOverflow, api.ErrSlots} {
		if told[e] < 10 {
			t.Errorf("%v is told %d times", e, told[e])
		}
	}
}

// Calls keep nothing: what they answer does not hang on those ahead of them.
func TestNothingIsKept(t *testing.T) {
	for range 3 {
		l := of(1, 3, 5, 2)
		give().wantDone(t, l, api.Stack{Item: 2, Count: 4}, of(1, 3, 2, 4, 5, 2), api.OK)
		take().wantDone(t, l, api.Stack{Item: 5, Count: 2}, of(1, 3), api.OK)
		take().wantDone(t, l, api.Stack{Item: 1, Count: 4}, nil, api.ErrStock)
		wantMoved(t, l, of(5, 1), api.Stack{Item: 5, Count: 1}, of(1, 3, 5, 1), of(5, 2), api.OK)
		if n := goods.Count(l, 1); n != 3 {
			t.Errorf("Count: %d", n)
		}
		if !goods.Right(l) || goods.Right(of(1, 0)) {
			t.Error("Right")
		}
	}
}

// FuzzGoods holds works of goods, made of bytes, against plain ones.
func FuzzGoods(f *testing.F) {
	f.Add([]byte{1, 3, 5, 2}, []byte{}, uint16(1), int64(1))
	f.Add([]byte{1, 3, 1, 2}, []byte{7, 0}, uint16(1), int64(most))
	f.Add([]byte{0, 1, 255, 255}, []byte{255, 1}, uint16(0), int64(0))
	f.Fuzz(func(t *testing.T, first, second []byte, item uint16, n int64) {
		read := func(bytes []byte) []api.Stack {
			var l []api.Stack
			for i := 0; i+1 < len(bytes); i += 2 {
				count := int64(bytes[i+1])
				if count > 200 {
					count += most - 230
				}
				l = append(l, api.Stack{Item: uint16(bytes[i]), Count: count})
			}
			return l
		}
		a, b, s := read(first), read(second), api.Stack{Item: item, Count: n}
		if goods.Right(a) != plainRight(a) || goods.Count(a, item) != plainCount(a, item) {
			t.Fatalf("%v: right %v, %d of %d", brief(a), goods.Right(a), goods.Count(a, item), item)
		}
		give().wantAsTold(t, a, s)
		take().wantAsTold(t, a, s)
		left, given, e := plainMove(a, b, s)
		wantMoved(t, a, b, s, left, given, e)
	})
}
