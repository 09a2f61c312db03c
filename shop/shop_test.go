package shop_test

import (
	"math"
	"slices"
	"strings"
	"testing"

	"bazaar/api"
	"bazaar/shop"
)

// P15.1: Right.

func TestRightByHand(t *testing.T) {
	for _, x := range []api.Listing{
		of(1, 0, 1, 0), of(1, 0, 1, 1), of(1, 4, 1, 0), of(1, 4, 1, 1), of(1, 65535, 1, 1), of(258, 3, 4, 5), of(1000000, 0, 1, 0), of(999999, 2, 3, 4),
		of(1, 0, most, 0), of(1, 0, 1, most), of(1, 7, most, most), of(1000000, 65535, most, most), of(1000000, 65535, most-1, most-1),
	} {
		if !shop.Right(x) {
			t.Errorf("not right: %v", x)
		}
	}
	for _, x := range wrongListings() {
		if shop.Right(x) {
			t.Errorf("right: %v", x)
		}
	}
}

func TestRightOfEachSeller(t *testing.T) {
	for _, seller := range append(sellers(), 1000002, 1<<20-1, 1<<32-2, 1<<16+1, 1<<24, 1<<30) {
		want := seller >= 1 && seller <= 1000000
		if shop.Right(of(seller, 0, 1, 0)) != want || shop.Right(of(seller, 4, 1, 1)) != want || shop.Right(of(seller, 65535, most, most)) != want {
			t.Errorf("seller %d: not %v", seller, want)
		}
		if shop.Right(of(seller, 0, 0, 0)) || shop.Right(of(seller, 4, 0, 1)) || shop.Right(of(seller, 4, 1, -1)) {
			t.Errorf("seller %d: a wrong listing is right", seller)
		}
	}
}

// Count and Price at each number alone, and both together.
func TestRightOfEachNumber(t *testing.T) {
	for _, n := range numbers() {
		amount := plainAmount(n)
		some := amount && n != 0
		for _, item := range items() {
			if shop.Right(of(1, item, n, 0)) != some || shop.Right(of(1, item, n, 1)) != some || shop.Right(of(1, item, n, most)) != some {
				t.Errorf("count %d", n)
			}
			if shop.Right(of(1, item, 1, n)) != amount || shop.Right(of(1, item, most, n)) != amount || shop.Right(of(1, item, 0, n)) {
				t.Errorf("price %d", n)
			}
			if shop.Right(of(1, item, n, n)) != some {
				t.Errorf("both %d", n)
			}
		}
	}
}

func TestRightOfEachItem(t *testing.T) {
	for item := range 1 << 16 {
		if !shop.Right(of(1, uint16(item), 1, 0)) || shop.Right(of(1, uint16(item), 0, 1)) {
			t.Fatalf("item %d", item)
		}
	}
}

func TestRightOfAllListings(t *testing.T) {
	right := 0
	for _, x := range allListings() {
		if shop.Right(x) != plainListing(x) {
			t.Fatalf("Right(%v): %v", x, shop.Right(x))
		}
		if shop.Right(x) {
			right++
		}
	}
	if right < 1000 || right > len(allListings())-1000 {
		t.Errorf("%d of %d are right", right, len(allListings()))
	}
}

// P15.1: Bytes and Parse.

func TestBytesByHand(t *testing.T) {
	wantBytes(t, of(258, 3, 4, 5), "\x00\x00\x01\x02"+"\x00\x03"+"\x00\x00\x00\x00\x00\x00\x00\x04"+"\x00\x00\x00\x00\x00\x00\x00\x05")
	wantBytes(t, of(1, 0, 1, 0), "\x00\x00\x00\x01"+"\x00\x00"+"\x00\x00\x00\x00\x00\x00\x00\x01"+"\x00\x00\x00\x00\x00\x00\x00\x00")
	wantBytes(t, of(1000000, 65535, most, most), "\x00\x0f\x42\x40"+"\xff\xff"+"\x10\x00\x00\x00\x00\x00\x00\x00"+"\x10\x00\x00\x00\x00\x00\x00\x00")
	wantBytes(t, of(0x010203, 0x090a, 0x0102030405060708, 0x0008070605040302), "\x00\x01\x02\x03"+"\x09\x0a"+"\x01\x02\x03\x04\x05\x06\x07\x08"+"\x00\x08\x07\x06\x05\x04\x03\x02")
	wantBytes(t, of(999999, 256, 65536, most-1), "\x00\x0f\x42\x3f"+"\x01\x00"+"\x00\x00\x00\x00\x00\x01\x00\x00"+"\x0f\xff\xff\xff\xff\xff\xff\xff")
}

func TestBytesOfAllListings(t *testing.T) {
	for _, x := range append(allListings(), wrongListings()...) {
		if plainListing(x) {
			wantBytes(t, x, plainBytes(x))
			continue
		}
		wantNoBytes(t, x)
		wantNoListing(t, plainBytes(x))
	}
}

func TestParseRefusesSizes(t *testing.T) {
	s := plainBytes(of(258, 3, 4, 5))
	wantBytes(t, of(258, 3, 4, 5), s)
	wantNoListing(t, "")
	for size := range 22 {
		wantNoListing(t, s[:size])
		wantNoListing(t, s[22-size:])
	}
	for _, more := range []string{"\x00", "\x01", "\xff", s[:8], s, strings.Repeat("\x00", 8), strings.Repeat(s, 5000)} {
		wantNoListing(t, s+more)
		wantNoListing(t, more+s)
	}
	// Bytes of one kind, of each number: only twenty-two of them may be a listing's.
	for size := range 100 {
		for _, b := range []string{"\x00", "\x01", "\xff"} {
			wantParsedAsTold(t, strings.Repeat(b, size))
		}
	}
}

// A listing's numbers, as wide as amounts, are not its bytes.
func TestParseRefusesWideNumbers(t *testing.T) {
	eight := func(n byte) string { return strings.Repeat("\x00", 7) + string([]byte{n}) }
	wantNoListing(t, eight(1)+eight(2)+eight(3)+eight(4))
	wantNoListing(t, eight(1)+eight(2)+eight(3))
	wantNoListing(t, eight(1)[4:]+eight(2)+eight(3)+eight(4))
	wantNoListing(t, eight(1)+eight(2)[6:]+eight(3)+eight(4))
	wantBytes(t, of(1, 2, 3, 4), eight(1)[4:]+eight(2)[6:]+eight(3)+eight(4))
}

func TestParseRefusesFields(t *testing.T) {
	for _, x := range wrongListings() {
		wantNoListing(t, plainBytes(x))
		wantNoBytes(t, x)
	}
	// Of a seller's number that is too great the last bytes are one that is not.
	for _, seller := range []uint32{1<<20 + 1, 1<<24 + 1, 1<<31 + 1} {
		wantNoListing(t, plainBytes(of(seller, 2, 3, 4)))
	}
	for _, n := range numbers() {
		wantParsedAsTold(t, plainBytes(of(1, 4, n, 5)))
		wantParsedAsTold(t, plainBytes(of(1, 4, 5, n)))
		wantParsedAsTold(t, plainBytes(of(1, 4, n, n)))
	}
}

// Bytes of which one is another one: those of another listing, or of none.
func TestParseOfChangedBytes(t *testing.T) {
	told := make(map[api.Errno]int)
	for _, x := range []api.Listing{of(258, 3, 4, 5), of(1, 0, 1, 0), of(1, 1, 1, 1), of(1000000, 65535, most, most), of(65536, 256, 256, 256), of(1, 0, most-1, 0), of(1, 0, 1, most-1), of(0x010203, 0x090a, 0x0102030405060708, 0x0008070605040302)} {
		for at := range 22 {
			for b := range 256 {
				s := []byte(plainBytes(x))
				s[at] = byte(b)
				told[wantParsedAsTold(t, string(s))]++
			}
		}
	}
	if told[api.OK] < 1000 || told[api.ErrListing] < 1000 {
		t.Error(told)
	}
}

func TestParseOfShortenedBytes(t *testing.T) {
	s := plainBytes(of(258, 3, 4, 5)) + plainBytes(of(1, 0, 1, 0)) + plainBytes(of(0, 1, 1, 1))
	for from := range len(s) {
		for to := from; to <= len(s); to++ {
			wantParsedAsTold(t, s[from:to])
		}
	}
}

// P15.2: List, Cancel and Buy.

func TestListByHand(t *testing.T) {
	some := goodsOf(1, 3, 5, 2)
	list().wantRows(t, []row{
		{goodsOf(3, 4), of(258, 3, 4, 5), nil, api.OK},
		{some, of(258, 1, 2, 5), goodsOf(1, 1, 5, 2), api.OK},
		{some, of(258, 1, 3, 0), goodsOf(5, 2), api.OK},
		{some, of(258, 5, 2, most), goodsOf(1, 3), api.OK},
		{some, of(258, 5, 1, 1), goodsOf(1, 3, 5, 1), api.OK},
		{goodsOf(0, 4), of(1, 0, 1, 0), goodsOf(0, 3), api.OK},
		{goodsOf(0, most, 65535, most), of(1000000, 65535, most, most), goodsOf(0, most), api.OK},
		{goodsOf(0, most), of(1, 0, most-1, 0), goodsOf(0, 1), api.OK},
		{stacks(20, 0, 1), of(1, 0, 1, 9), stacks(20, 0, 1)[1:], api.OK},
		// One more than there is, and an item that is not there.
		{some, of(258, 1, 4, 5), nil, api.ErrStock},
		{some, of(258, 5, 3, 0), nil, api.ErrStock},
		{some, of(258, 2, 1, 5), nil, api.ErrStock},
		{some, of(258, 0, 1, 5), nil, api.ErrStock},
		{some, of(258, 65535, most, 5), nil, api.ErrStock},
		{nil, of(1, 0, 1, 0), nil, api.ErrStock},
		{[]api.Stack{}, of(1, 0, 1, 0), nil, api.ErrStock},
		{goodsOf(0, most-1), of(1, 0, most, 0), nil, api.ErrStock},
		// A listing, or goods, that are not right.
		{some, of(0, 1, 2, 5), nil, api.ErrListing},
		{some, of(258, 1, 0, 5), nil, api.ErrListing},
		{some, of(258, 1, 2, -1), nil, api.ErrListing},
		{goodsOf(5, 2, 1, 3), of(258, 1, 2, 5), nil, api.ErrGoods},
		{stacks(21, 0, 1), of(258, 0, 1, 5), nil, api.ErrGoods},
	})
}

func TestCancelByHand(t *testing.T) {
	some := goodsOf(1, 3, 5, 2)
	full := stacks(20, 10, 2)
	for _, w := range []one{cancel(), buy()} {
		w.wantRows(t, []row{
			{nil, of(258, 3, 4, 5), goodsOf(3, 4), api.OK},
			{[]api.Stack{}, of(258, 3, 4, 5), goodsOf(3, 4), api.OK},
			{goodsOf(3, 4), of(258, 3, 4, 5), goodsOf(3, 8), api.OK},
			{some, of(258, 1, 4, 0), goodsOf(1, 7, 5, 2), api.OK},
			{some, of(258, 2, 4, 0), goodsOf(1, 3, 2, 4, 5, 2), api.OK},
			{some, of(258, 0, 1, 0), goodsOf(0, 1, 1, 3, 5, 2), api.OK},
			{some, of(1000000, 65535, most, most), goodsOf(1, 3, 5, 2, 65535, most), api.OK},
			{goodsOf(7, most-1), of(1, 7, 1, 0), goodsOf(7, most), api.OK},
			// A stack overflows.
			{goodsOf(7, most), of(1, 7, 1, 0), nil, api.ErrOverflow},
			{goodsOf(7, 1), of(1, 7, most, 0), nil, api.ErrOverflow},
			{goodsOf(0, 5, 7, most), of(1, 7, most, most), nil, api.ErrOverflow},
			{with(full, api.Stack{Item: 12, Count: most}), of(1, 12, 1, 0), nil, api.ErrOverflow},
			// Twenty stacks, and a new item, or one that is there.
			{full, of(1, 11, 1, 0), nil, api.ErrSlots},
			{full, of(1, 0, most, 0), nil, api.ErrSlots},
			{full, of(1, 65535, 1, most), nil, api.ErrSlots},
			{full, of(1, 10, 4, 0), with(full, api.Stack{Item: 10, Count: 5}), api.OK},
			{full[:19], of(1, 11, 4, 0), changedBy(full[:19], 11, 4), api.OK},
			{full[1:], of(1, 10, 1, 0), full, api.OK},
			// A listing, or goods, that are not right.
			{some, of(0, 1, 2, 5), nil, api.ErrListing},
			{some, of(258, 1, 0, 5), nil, api.ErrListing},
			{some, of(258, 1, 2, -1), nil, api.ErrListing},
			{goodsOf(5, 2, 1, 3), of(258, 1, 2, 5), nil, api.ErrGoods},
			{stacks(21, 0, 1), of(258, 0, 1, 5), nil, api.ErrGoods},
		})
	}
}

func TestBuyByHand(t *testing.T) {
	some := goodsOf(1, 3, 5, 2)
	deal{has(9, 0), none(), nil, of(1, 3, 2, 4)}.wantDone(t, done{has(5, 0), has(4, 0), goodsOf(3, 2), api.OK})
	deal{has(7, 1), has(2, 0), nil, of(258, 3, 4, 5)}.wantDone(t, done{has(2, 1), has(7, 0), goodsOf(3, 4), api.OK})
	deal{has(9, 1), has(6, 2), some, of(258, 5, 2, 9)}.wantDone(t, done{has(0, 1), has(15, 2), goodsOf(1, 3, 5, 4), api.OK})
	deal{has(most, 0), none(), some, of(258, 2, most, most)}.wantDone(t, done{none(), has(most, 0), goodsOf(1, 3, 2, most, 5, 2), api.OK})
	deal{has(1, most-1), has(most-1, 0), some, of(1000000, 1, 1, 1)}.wantDone(t, done{has(0, most-1), has(most, 0), goodsOf(1, 4, 5, 2), api.OK})
	deal{has(1, most-1), has(0, most-1), some, of(1000000, 1, 1, 1)}.wantDone(t, done{has(0, most-1), has(1, most-1), goodsOf(1, 4, 5, 2), api.OK})
	// The price is that of all.
	deal{has(9, 0), none(), nil, of(1, 3, 1000, 4)}.wantDone(t, done{has(5, 0), has(4, 0), goodsOf(3, 1000), api.OK})
	// Both may be one, or look so: each is told by itself.
	deal{has(9, 1), has(9, 1), some, of(258, 5, 2, 4)}.wantDone(t, done{has(5, 1), has(13, 1), goodsOf(1, 3, 5, 4), api.OK})
	// Without a price nobody pays, be there coins or none, or be there no more that may be.
	deal{has(9, 1), has(6, 2), some, of(258, 2, 7, 0)}.wantDone(t, done{has(9, 1), has(6, 2), goodsOf(1, 3, 2, 7, 5, 2), api.OK})
	deal{none(), has(most, 0), nil, of(258, 2, 7, 0)}.wantDone(t, done{none(), has(most, 0), goodsOf(2, 7), api.OK})
	deal{has(0, most), has(0, most), nil, of(258, 2, 7, 0)}.wantDone(t, done{has(0, most), has(0, most), goodsOf(2, 7), api.OK})
	deal{none(), none(), stacks(20, 4, 1), of(258, 4, 7, 0)}.wantDone(t, done{l: with(stacks(20, 4, 1), api.Stack{Item: 4, Count: 8})})
	deal{none(), none(), stacks(20, 4, 1), of(258, 3, 7, 0)}.wantRefused(t, api.ErrSlots)
}

func TestBuyRefusedByHand(t *testing.T) {
	some, full := goodsOf(1, 3, 5, 2), stacks(20, 10, 2)
	// One coin less than the price. What is in the bank doesn't count.
	deal{has(4, 0), none(), nil, of(1, 3, 4, 5)}.wantRefused(t, api.ErrFunds)
	deal{has(4, 99), has(99, 99), some, of(1, 3, 4, 5)}.wantRefused(t, api.ErrFunds)
	deal{has(0, most), none(), some, of(1, 1, 1, 1)}.wantRefused(t, api.ErrFunds)
	deal{has(most-1, 0), none(), some, of(1, 1, 1, most)}.wantRefused(t, api.ErrFunds)
	// The seller's wallet overflows, or it and the bank together.
	deal{has(1, 0), has(most, 0), some, of(1, 1, 1, 1)}.wantRefused(t, api.ErrOverflow)
	deal{has(1, 0), has(0, most), some, of(1, 1, 1, 1)}.wantRefused(t, api.ErrOverflow)
	deal{has(most, 0), has(1, 0), some, of(1, 1, 1, most)}.wantRefused(t, api.ErrOverflow)
	deal{has(most, 0), has(0, 1), some, of(1, 1, 1, most)}.wantRefused(t, api.ErrOverflow)
	deal{has(most, 0), has(5, 9), nil, of(1, 1, 1, most-13)}.wantRefused(t, api.ErrOverflow)
	deal{has(most, 0), has(5, 9), nil, of(1, 1, 1, most-14)}.wantDone(t, done{has(14, 0), has(most-9, 9), goodsOf(1, 1), api.OK})
	// The buyer's stack does, or there are too many stacks.
	deal{has(9, 0), none(), goodsOf(7, most), of(1, 7, 1, 4)}.wantRefused(t, api.ErrOverflow)
	deal{has(9, 0), none(), goodsOf(7, 1), of(1, 7, most, 4)}.wantRefused(t, api.ErrOverflow)
	deal{has(9, 0), none(), full, of(1, 11, 1, 4)}.wantRefused(t, api.ErrSlots)
	deal{has(9, 0), none(), full, of(1, 65535, 1, 9)}.wantRefused(t, api.ErrSlots)
	deal{has(9, 0), none(), full, of(1, 10, 4, 9)}.wantDone(t, done{none(), has(9, 0), with(full, api.Stack{Item: 10, Count: 5}), api.OK})
	// What is wrong with coins goes ahead of what is wrong with things.
	deal{has(4, 0), none(), full, of(1, 11, 1, 5)}.wantRefused(t, api.ErrFunds)
	deal{has(9, 0), has(0, most), full, of(1, 11, 1, 5)}.wantRefused(t, api.ErrOverflow)
	deal{has(4, 0), has(0, most), full, of(1, 11, 1, 5)}.wantRefused(t, api.ErrFunds)
	deal{has(4, 0), has(0, -1), full, of(1, 11, 1, 5)}.wantRefused(t, api.ErrAccount)
	deal{has(4, 0), has(0, -1), full, of(0, 11, 1, 5)}.wantRefused(t, api.ErrListing)
}

// wrongAccounts is accounts that are not right, wrongGoods goods.
func wrongAccounts() []api.Account {
	return []api.Account{
		has(-1, 0), has(0, -1), has(5, -1), has(-1, 5), has(most+1, 0), has(0, most+1), has(most, 1), has(1, most), has(most, most),
		has(math.MinInt64, 0), has(0, math.MinInt64), has(math.MinInt64, math.MinInt64), has(math.MaxInt64, math.MaxInt64), has(math.MaxInt64, 5), has(5, math.MaxInt64),
	}
}

func wrongGoods() [][]api.Stack {
	return [][]api.Stack{
		goodsOf(1, 0), goodsOf(1, -1), goodsOf(1, most+1), goodsOf(1, math.MinInt64), goodsOf(1, math.MaxInt64), goodsOf(1, 3, 5, 0), goodsOf(1, 3, 4, 9, 5, -7),
		goodsOf(1, 3, 1, 3), goodsOf(5, 3, 1, 3), goodsOf(1, 9, 4, 9, 4, 9), goodsOf(4, 9, 1, 9), goodsOf(4, 9, 4, 9),
		stacks(21, 0, 1), stacks(21, 4, 2), stacks(22, 1, 3), stacks(300, 0, 1), make([]api.Stack, 21), make([]api.Stack, 1),
	}
}

// rightAccounts and rightGoods are right ones, of little and of all there may be.
func rightAccounts() []api.Account {
	return []api.Account{
		none(), has(1, 0), has(0, 1), has(5, 2), has(2, 5), has(300, 6), has(most, 0), has(0, most), has(most-1, 0), has(0, most-1), has(most-1, 1), has(1, most-1),
		has(most/2, most/2), has(most-300, 100), has(100, most-300), has(most-6, 5),
	}
}

func rightGoods() [][]api.Stack {
	return [][]api.Stack{
		nil, {}, goodsOf(0, 1), goodsOf(1, 3), goodsOf(4, 9), goodsOf(65535, 1), goodsOf(0, most), goodsOf(4, most-1), goodsOf(65535, most), goodsOf(0, 7, 4, 9, 65535, 2), goodsOf(1, 3, 255, 5, 256, most, 32768, 1),
		goodsOf(3, 1, 5, 2), stacks(19, 0, 1), stacks(19, 5, 3), stacks(20, 0, 1), stacks(20, 5, 3), stacks(20, 1, 3), stacks(20, 65516, 1), stacks(20, 0, 3449), with(stacks(20, 0, 1), api.Stack{Item: 4, Count: most}),
	}
}

// someListings is right listings, and wrong ones.
func someListings() []api.Listing {
	l := []api.Listing{
		of(1, 0, 1, 0), of(1, 0, most, 1), of(1000000, 4, 1, 0), of(2, 4, 9, 1), of(2, 4, 10, 2), of(2, 4, most, 5), of(258, 4, 5, 3), of(1, 1, 3, 6), of(1, 1, 4, 300), of(9, 3, 1, 301),
		of(1, 65535, 1, 1), of(1, 65535, 2, 6), of(9, 256, most, most), of(9, 32768, 1, 0), of(9, 255, 5, most/2), of(9, 5, 1, most-1), of(9, 6, 2, most), of(9, 20, 7, 2),
	}
	return append(l, wrongListings()...)
}

func TestListAndCancelErrorsInOrder(t *testing.T) {
	for _, w := range []one{list(), cancel(), buy()} {
		for _, x := range wrongListings() {
			for _, l := range slices.Concat(wrongGoods(), rightGoods(), [][]api.Stack{stacks(65536, 0, 1)}) {
				w.wantRefused(t, l, x, api.ErrListing)
			}
		}
		for _, x := range []api.Listing{of(1, 4, 1, 0), of(1, 4, 5, 3), of(1, 1, most, most), of(1, 65535, most, 0), of(1, 0, 1, 0)} {
			for _, l := range append(wrongGoods(), stacks(65536, 0, 1)) {
				w.wantRefused(t, l, x, api.ErrGoods)
			}
		}
	}
}

// What is told first: of the listing, of the accounts, of the buyer's coins, of the seller's, of the goods, of the things.
func TestBuyErrorsInOrder(t *testing.T) {
	all := slices.Concat(wrongGoods(), [][]api.Stack{nil, goodsOf(4, 9), goodsOf(4, most), stacks(20, 5, 1)})
	some := []api.Listing{of(1, 4, 5, 3), of(1, 4, 1, 3), of(1, 65535, most, 3)}
	for _, x := range wrongListings() {
		for _, a := range append(wrongAccounts(), has(0, 0), has(9, 9), has(most, 0)) {
			for _, l := range all {
				deal{a, has(9, 9), l, x}.wantRefused(t, api.ErrListing)
				deal{has(9, 9), a, l, x}.wantRefused(t, api.ErrListing)
				deal{a, a, l, x}.wantRefused(t, api.ErrListing)
			}
		}
	}
	for _, x := range append(some, of(1, 4, 1, 0), of(1, 4, most, most)) {
		for _, a := range wrongAccounts() {
			for _, l := range all {
				deal{a, has(9, 9), l, x}.wantRefused(t, api.ErrAccount)
				deal{has(9, 9), a, l, x}.wantRefused(t, api.ErrAccount)
				deal{none(), a, l, x}.wantRefused(t, api.ErrAccount)
				deal{a, has(0, most), l, x}.wantRefused(t, api.ErrAccount)
				deal{a, a, l, x}.wantRefused(t, api.ErrAccount)
			}
		}
	}
	for _, x := range some {
		for _, l := range all {
			for _, a := range rightAccounts() {
				deal{has(2, 9), a, l, x}.wantRefused(t, api.ErrFunds)
				deal{has(2, most-2), a, l, x}.wantRefused(t, api.ErrFunds)
			}
			deal{has(3, 9), has(most-2, 0), l, x}.wantRefused(t, api.ErrOverflow)
			deal{has(3, 9), has(0, most-2), l, x}.wantRefused(t, api.ErrOverflow)
			deal{has(3, 9), has(most-9, 7), l, x}.wantRefused(t, api.ErrOverflow)
		}
		for _, l := range wrongGoods() {
			deal{has(3, 9), has(most-3, 0), l, x}.wantRefused(t, api.ErrGoods)
			deal{has(3, 9), none(), l, x}.wantRefused(t, api.ErrGoods)
		}
	}
}

// All there is of an item, one fewer, one more, and as many of an item that is not there.
func TestListOfAllThereIs(t *testing.T) {
	for _, l := range rightGoods() {
		for _, s := range l {
			list().wantDone(t, l, of(1, s.Item, s.Count, 5), changedBy(l, s.Item, -s.Count), api.OK)
			if s.Count > 1 {
				list().wantDone(t, l, of(1, s.Item, s.Count-1, 5), changedBy(l, s.Item, 1-s.Count), api.OK)
			}
			if s.Count < most {
				list().wantRefused(t, l, of(1, s.Item, s.Count+1, 5), api.ErrStock)
			}
			list().wantRefused(t, changedBy(l, s.Item, -s.Count), of(1, s.Item, s.Count, 5), api.ErrStock)
		}
	}
}

// All coins of a wallet, and one more.
func TestBuyForAllThereIs(t *testing.T) {
	for _, a := range rightAccounts() {
		for _, l := range rightGoods()[:15] {
			deal{a, none(), l, of(1, 9, 1, a.Wallet)}.wantAsTold(t)
			deal{a, none(), nil, of(1, 9, 1, a.Wallet)}.wantDone(t, done{has(0, a.Bank), has(a.Wallet, 0), goodsOf(9, 1), api.OK})
			if a.Wallet < most {
				deal{a, none(), l, of(1, 9, 1, a.Wallet+1)}.wantRefused(t, api.ErrFunds)
			}
		}
	}
}

func TestWorksOfMany(t *testing.T) {
	for _, w := range []one{list(), cancel(), buy()} {
		told := make(map[api.Errno]int)
		for _, l := range slices.Concat(rightGoods(), wrongGoods()) {
			for _, x := range someListings() {
				told[w.wantAsTold(t, l, x)]++
			}
		}
		want := []api.Errno{api.OK, api.ErrListing, api.ErrGoods, api.ErrOverflow, api.ErrSlots}
		if w.name == "List" {
			want = []api.Errno{api.OK, api.ErrListing, api.ErrGoods, api.ErrStock}
		}
		wantAllTold(t, w.name, told, 4, want...)
	}
}

func TestBuysOfMany(t *testing.T) {
	told := make(map[api.Errno]int)
	for _, buyer := range slices.Concat(rightAccounts(), wrongAccounts()[:4]) {
		for _, seller := range slices.Concat(rightAccounts(), wrongAccounts()[5:9]) {
			for _, l := range slices.Concat(rightGoods(), wrongGoods()[:6]) {
				for _, x := range someListings()[:24] {
					told[deal{buyer, seller, l, x}.wantAsTold(t)]++
				}
			}
		}
	}
	wantAllTold(t, "Buy", told, 1000, api.OK, api.ErrListing, api.ErrAccount, api.ErrFunds, api.ErrOverflow, api.ErrGoods, api.ErrSlots)
}

// wantAllTold checks that each of these errors was told so many times at least, and no other one.
func wantAllTold(t *testing.T, name string, told map[api.Errno]int, least int, want ...api.Errno) {
	t.Helper()
	for _, e := range want {
		if told[e] < least {
			t.Errorf("%s: %v is told %d times", name, e, told[e])
		}
	}
	if len(told) != len(want) {
		t.Errorf("%s: %v", name, told)
	}
}

// All small wallets, stacks and listings.
func TestWorksOfSmallNumbers(t *testing.T) {
	for count := int64(-1); count < 5; count++ {
		for n := int64(-1); n < 6; n++ {
			for item := range uint16(3) {
				for _, l := range [][]api.Stack{goodsOf(1, count), goodsOf(0, 2, 1, count), goodsOf(1, most-count)} {
					for price := int64(-1); price < 6; price++ {
						x := of(3, item, n, price)
						list().wantAsTold(t, l, x)
						cancel().wantAsTold(t, l, x)
						for coins := int64(-1); coins < 5; coins++ {
							deal{has(coins, 2), has(most-coins, 0), l, x}.wantAsTold(t)
							deal{has(coins, 2), has(1, most-coins), l, x}.wantAsTold(t)
							deal{has(2, coins), has(coins, 2), l, x}.wantAsTold(t)
						}
					}
				}
			}
		}
	}
}

// R3: what is answered shares no list, and no spare room, with what was handed in, nor with another answer.

// fill writes junk into goods, and into the room behind them.
func fill(l []api.Stack) {
	l = l[:cap(l)]
	for i := range l {
		l[i] = api.Stack{Item: 7777, Count: -7}
	}
}

func TestAnswersShareNoList(t *testing.T) {
	answered := 0
	for _, w := range []one{list(), cancel(), buy()} {
		for _, l := range append(rightGoods(), wrongGoods()...) {
			for _, x := range append(someListings(), of(1, 5, 1, 1), of(1, 5, 4, 1)) {
				room := slices.Concat(l, goodsOf(65535, 91, 65535, 92, 65535, 93))
				was := clone(room)
				first, _ := w.work(room[:len(l)], x)
				second, _ := w.work(room[:len(l)], x)
				want := clone(first)
				fill(second)
				if !slices.Equal(room, was) || !slices.Equal(first, want) {
					t.Fatalf("%s(%v, %v): %v; %v", w.name, brief(l), x, brief(room), brief(first))
				}
				fill(room)
				if !slices.Equal(first, want) {
					t.Fatalf("%s(%v, %v) shares memory: %v", w.name, brief(l), x, brief(first))
				}
				if len(first) > 0 {
					answered++
				}
			}
		}
	}
	if answered < 100 {
		t.Errorf("%d lists are answered", answered)
	}
}

// P15.3.

func TestListedAndCanceled(t *testing.T) {
	listed := 0
	for _, l := range rightGoods() {
		listings := someListings()
		for _, s := range l {
			listings = append(listings, of(5, s.Item, s.Count, 0), of(5, s.Item, 1, most))
		}
		for _, x := range listings {
			if then, e := shop.List(l, x); e == api.OK {
				listed++
				wantChanged(t, l, then, x, -x.Stack.Count)
				cancel().wantDone(t, then, x, l, api.OK)
			}
			if then, e := shop.Cancel(l, x); e == api.OK {
				wantChanged(t, l, then, x, x.Stack.Count)
				list().wantDone(t, then, x, l, api.OK)
			}
		}
	}
	if listed < 300 {
		t.Errorf("%d are listed", listed)
	}
}

// wantChanged checks that goods are right, have so many more of a listing's item, and are the same otherwise.
func wantChanged(t *testing.T, l, then []api.Stack, x api.Listing, n int64) {
	t.Helper()
	if !plainGoods(then) {
		t.Fatalf("%v of %v: %v", x, brief(l), brief(then))
	}
	for _, s := range slices.Concat(l, then, []api.Stack{x.Stack}) {
		more := int64(0)
		if s.Item == x.Stack.Item {
			more = n
		}
		if countOf(then, s.Item) != countOf(l, s.Item)+more {
			t.Fatalf("%v of %v: item %d: %v", x, brief(l), s.Item, brief(then))
		}
	}
}

// What is bought costs the price: no coin is more or less, and no bank is touched.
func TestBoughtCostsThePrice(t *testing.T) {
	bought := 0
	for _, buyer := range rightAccounts() {
		for _, seller := range rightAccounts() {
			for _, l := range rightGoods() {
				for _, x := range append(someListings()[:18], of(7, 4, 2, buyer.Wallet), of(7, 5, 1, buyer.Wallet/2)) {
					got := deal{buyer, seller, l, x}.bought()
					if got.e != api.OK {
						continue
					}
					bought++
					if got.buyer != has(buyer.Wallet-x.Price, buyer.Bank) || got.seller != has(seller.Wallet+x.Price, seller.Bank) || !plainAccount(got.buyer) || !plainAccount(got.seller) {
						t.Fatalf("%v of %v by %v: %v %v", x, seller, buyer, got.buyer, got.seller)
					}
					wantChanged(t, l, got.l, x, x.Stack.Count)
				}
			}
		}
	}
	if bought < 10000 {
		t.Errorf("%d are bought", bought)
	}
}

func TestOneToOne(t *testing.T) {
	of := make(map[string]api.Listing)
	for _, x := range rightListings() {
		s, e := shop.Bytes(x)
		if other, is := of[s]; is || e != api.OK || len(s) != 22 {
			t.Fatalf("Bytes(%v): %x %v, as %v", x, s, e, other)
		}
		of[s] = x
		if back, e := shop.Parse(s); back != x || e != api.OK {
			t.Fatalf("Parse(%x): %v %v, want %v", s, back, e, x)
		}
	}
	if len(of) < 1000 {
		t.Error(len(of))
	}
}

// traders is a small market: what each has, and what is for sale, as bytes.
type traders struct {
	purses []api.Account
	goods  [][]api.Stack
	sale   []string
	seed   uint32
}

// next is a number below n, the same in each run.
func (m *traders) next(n uint32) uint32 {
	m.seed = m.seed*1664525 + 1013904223
	return (m.seed >> 8) % n
}

// total is all coins and all things there are.
func (m *traders) total() (int64, int64) {
	var coins, things int64
	for i, a := range m.purses {
		coins += a.Wallet + a.Bank
		for _, s := range m.goods[i] {
			things += s.Count
		}
	}
	for _, s := range m.sale {
		x, _ := plainParse(s)
		things += x.Stack.Count
	}
	return coins, things
}

// list has a trader list something, or try to.
func (m *traders) list(t *testing.T) api.Errno {
	at := m.next(3)
	x := of(at+1, uint16(m.next(35)), int64(m.next(12))-1, int64(m.next(200))-2)
	e := list().wantAsTold(t, m.goods[at], x)
	if e == api.OK {
		m.goods[at], _ = shop.List(m.goods[at], x)
		s, _ := shop.Bytes(x)
		m.sale = append(m.sale, s)
	}
	return e
}

// sell has a trader buy something that is for sale, or cancel what is its own, or try to.
func (m *traders) sell(t *testing.T) api.Errno {
	at, from := m.next(3), int(m.next(uint32(len(m.sale))))
	x, e := shop.Parse(m.sale[from])
	if e != api.OK {
		t.Fatalf("Parse(%x): %v", m.sale[from], e)
	}
	if seller := x.Seller - 1; seller == at {
		if e = cancel().wantAsTold(t, m.goods[at], x); e == api.OK {
			m.goods[at], _ = shop.Cancel(m.goods[at], x)
		}
	} else {
		d := deal{m.purses[at], m.purses[seller], m.goods[at], x}
		if e = d.wantAsTold(t); e == api.OK {
			m.purses[at], m.purses[seller], m.goods[at], _ = shop.Buy(d.buyer, d.seller, d.l, x)
		}
	}
	if e == api.OK {
		m.sale = slices.Delete(m.sale, from, from+1)
	}
	return e
}

// A long run: three traders list, cancel and buy. No coin and no thing is more or less.
func TestALongRun(t *testing.T) {
	m := &traders{[]api.Account{has(1000, 5), has(0, 7), has(300, most/2)}, [][]api.Stack{stacks(20, 0, 1), stacks(20, 14, 1), nil}, nil, 1}
	told := make(map[api.Errno]int)
	coins, things := m.total()
	for range 30000 {
		if m.next(2) == 0 || len(m.sale) == 0 {
			told[m.list(t)]++
		} else {
			told[m.sell(t)]++
		}
		if c, n := m.total(); c != coins || n != things {
			t.Fatalf("%d coins, %d things, were %d and %d", c, n, coins, things)
		}
	}
	for _, e := range []api.Errno{api.OK, api.ErrListing, api.ErrFunds, api.ErrStock, api.ErrSlots} {
		if told[e] < 100 {
			t.Errorf("%v is told %d times", e, told[e])
		}
	}
}

// Calls keep nothing: what they answer does not hang on those ahead of them.
func TestNothingIsKept(t *testing.T) {
	x, l := of(258, 4, 5, 3), goodsOf(4, 9)
	for range 3 {
		list().wantDone(t, l, x, goodsOf(4, 4), api.OK)
		cancel().wantDone(t, l, x, goodsOf(4, 14), api.OK)
		deal{has(3, 8), has(1, 2), nil, x}.wantDone(t, done{has(0, 8), has(4, 2), goodsOf(4, 5), api.OK})
		list().wantRefused(t, nil, x, api.ErrStock)
		cancel().wantRefused(t, goodsOf(4, most), x, api.ErrOverflow)
		deal{has(2, 8), has(1, 2), nil, x}.wantRefused(t, api.ErrFunds)
		deal{has(3, 8), has(most, 0), nil, x}.wantRefused(t, api.ErrOverflow)
		deal{has(3, 8), has(1, 2), stacks(20, 5, 1), x}.wantRefused(t, api.ErrSlots)
		list().wantRefused(t, l, of(258, 4, 0, 3), api.ErrListing)
		wantBytes(t, x, plainBytes(x))
		wantNoBytes(t, of(0, 4, 5, 3))
		wantNoListing(t, plainBytes(of(0, 4, 5, 3)))
		if !shop.Right(x) || shop.Right(of(0, 4, 5, 3)) {
			t.Error("Right")
		}
	}
}

// FuzzShop holds works of one stack, two accounts and a listing against plain ones.
func FuzzShop(f *testing.F) {
	for _, n := range edges() {
		f.Add(int64(5), int64(2), int64(1), int64(0), uint16(4), int64(9), uint32(1), uint16(4), n, int64(3))
		f.Add(int64(5), int64(2), int64(1), int64(0), uint16(4), int64(9), uint32(1), uint16(4), int64(3), n)
		f.Add(n, n, n, n, uint16(0), n, uint32(1000000), uint16(0), int64(1), int64(1))
		f.Add(int64(most), int64(0), n, int64(0), uint16(0), int64(1), uint32(1000000), uint16(9), int64(1), n)
	}
	f.Fuzz(func(t *testing.T, wallet, bank, sellers, sellersBank int64, item uint16, had int64, seller uint32, listed uint16, count, price int64) {
		x := of(seller, listed, count, price)
		if shop.Right(x) != plainListing(x) {
			t.Fatalf("Right(%v): %v", x, shop.Right(x))
		}
		for _, l := range [][]api.Stack{nil, goodsOf(int64(item), had), goodsOf(int64(item), had, 65535, 1)} {
			list().wantAsTold(t, l, x)
			cancel().wantAsTold(t, l, x)
			deal{has(wallet, bank), has(sellers, sellersBank), l, x}.wantAsTold(t)
		}
		wantParsedAsTold(t, plainBytes(x))
	})
}

// FuzzParse holds bytes against what the chapter tells of them.
func FuzzParse(f *testing.F) {
	for _, x := range append(wrongListings(), of(258, 3, 4, 5), of(1, 0, 1, 0), of(1000000, 65535, most, most)) {
		f.Add(plainBytes(x))
	}
	f.Fuzz(func(t *testing.T, s string) { wantParsedAsTold(t, s) })
}
