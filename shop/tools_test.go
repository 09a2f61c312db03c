package shop_test

import (
	"encoding/binary"
	"maps"
	"math"
	"slices"
	"testing"

	"bazaar/api"
	"bazaar/shop"
)

// most is the greatest amount.
const most = 1152921504606846976

// of is a listing of these numbers, in the order of its bytes.
func of(seller uint32, item uint16, count, price int64) api.Listing {
	return api.Listing{Seller: seller, Stack: api.Stack{Item: item, Count: count}, Price: price}
}

// has is an account of these coins.
func has(wallet, bank int64) api.Account { return api.Account{Wallet: wallet, Bank: bank} }

// none is the account, and noListing the listing, that stands beside an error.
func none() api.Account { return api.Account{} }

func noListing() api.Listing { return api.Listing{} }

// goodsOf is goods of these items and counts, turn by turn.
func goodsOf(numbers ...int64) []api.Stack {
	var l []api.Stack
	for i := 0; i < len(numbers); i += 2 {
		l = append(l, api.Stack{Item: uint16(numbers[i]), Count: numbers[i+1]})
	}
	return l
}

// stacks is n stacks, from an item on, each so many items behind the last one, of many counts.
func stacks(n, from, step int) []api.Stack {
	var l []api.Stack
	for i := range n {
		l = append(l, api.Stack{Item: uint16(from + i*step), Count: int64(i*i)%97 + 1})
	}
	return l
}

// with is goods where all there is of the stack's item is that, be the others what they are.
func with(l []api.Stack, s api.Stack) []api.Stack {
	l = clone(l)
	for i := range l {
		if l[i].Item == s.Item {
			l[i] = s
		}
	}
	return l
}

// clone is the same goods in other memory, without spare room.
func clone(l []api.Stack) []api.Stack {
	return append(make([]api.Stack, 0, len(l)), l...)
}

// brief is goods in a failing test's words.
func brief(l []api.Stack) []any {
	return []any{len(l), l[:min(len(l), 24)]}
}

// edges is the numbers at the ends of what is an amount, and of what is a number.
func edges() []int64 {
	return []int64{math.MinInt64, -1, 0, 1, most - 1, most, most + 1, math.MaxInt64}
}

// numbers is the edges, and numbers between them.
func numbers() []int64 {
	return append(edges(), -most, -2, 2, 5, 255, 256, 258, 1<<32, 1<<40+7, most/2, most+2, 1<<61, 1<<62, math.MinInt64+1, math.MinInt64+most, math.MaxInt64-1)
}

// sellers is numbers of accounts, those that are none among them.
func sellers() []uint32 {
	return []uint32{0, 1, 2, 255, 256, 258, 65536, 999999, 1000000, 1000001, 1 << 20, 1<<24 + 1, 1 << 31, 1<<32 - 1}
}

// items is items, those at the ends among them.
func items() []uint16 { return []uint16{0, 1, 4, 255, 256, 32768, 65535} }

// allListings is all listings of these, right or not.
func allListings() []api.Listing {
	var l []api.Listing
	for _, seller := range sellers() {
		for _, item := range items() {
			for _, count := range numbers() {
				for _, price := range numbers() {
					l = append(l, of(seller, item, count, price))
				}
			}
		}
	}
	return l
}

// rightListings is those of them that are right.
func rightListings() []api.Listing {
	return slices.DeleteFunc(allListings(), func(x api.Listing) bool { return !plainListing(x) })
}

// wrongListings is listings that are not right, each for another reason, or for several.
func wrongListings() []api.Listing {
	return []api.Listing{
		noListing(), of(1, 0, 0, 0), of(1000000, 0, 0, 0), of(1, 4, 0, 0), of(1, 65535, 0, 0), of(1, 4, 0, 1), of(1, 4, 0, most), of(0, 0, 0, 1), of(0, 4, 0, 0),
		of(0, 0, 1, 0), of(0, 4, 1, 1), of(0, 65535, most, most), of(1000001, 0, 1, 0), of(1000001, 4, 2, 3), of(1<<32-1, 4, 1, 1), of(1<<31, 4, 1, 1), of(1<<24+1, 4, 1, 1), of(1<<20+1, 0, 1, 0),
		of(1, 4, -1, 0), of(1, 4, -1, 1), of(1, 0, -1, 0), of(1, 4, math.MinInt64, 1), of(1, 4, most+1, 0), of(1, 4, most+1, 1), of(1, 4, math.MaxInt64, 1),
		of(1, 4, 1, -1), of(1, 0, 1, -1), of(1, 4, 1, math.MinInt64), of(1, 4, 1, most+1), of(1, 0, 1, most+1), of(1, 4, 1, math.MaxInt64), of(1, 65535, most, most+1), of(1, 65535, most, -1),
		of(1, 4, -1, -1), of(1, 4, most+1, most+1), of(1, 0, math.MinInt64, math.MinInt64), of(1, 4, math.MaxInt64, math.MaxInt64), of(1, 4, 0, -1), of(1, 4, -1, most+1), of(1, 4, most+1, -1),
		of(0, 0, -1, -1), of(1000001, 4, -1, -1), of(1<<32-1, 65535, math.MaxInt64, math.MinInt64),
	}
}

// plainAmount tells whether a number is an amount, by the chapter's words.
func plainAmount(n int64) bool { return n >= 0 && n <= 1152921504606846976 }

// plainListing tells whether a listing is right, by the chapter's words.
func plainListing(x api.Listing) bool {
	switch {
	case x.Seller < 1, x.Seller > 1000000:
		return false
	case !plainAmount(x.Stack.Count), x.Stack.Count < 1:
		return false
	}
	return plainAmount(x.Price)
}

// plainAccount tells whether an account is right, by the chapter's words. Two amounts' sum does not wrap.
func plainAccount(a api.Account) bool {
	return plainAmount(a.Wallet) && plainAmount(a.Bank) && plainAmount(a.Wallet+a.Bank)
}

// plainGoods tells whether goods are right, by the chapter's words.
func plainGoods(l []api.Stack) bool {
	for i, s := range l {
		if s.Count == 0 || !plainAmount(s.Count) || i > 0 && l[i-1].Item >= s.Item {
			return false
		}
	}
	return len(l) <= 20
}

// changedBy is goods that have so many more of an item, or fewer, by a table.
func changedBy(l []api.Stack, item uint16, n int64) []api.Stack {
	table := make(map[uint16]int64)
	for _, s := range l {
		table[s.Item] = s.Count
	}
	table[item] += n
	var then []api.Stack
	for _, item := range slices.Sorted(maps.Keys(table)) {
		if table[item] != 0 {
			then = append(then, api.Stack{Item: item, Count: table[item]})
		}
	}
	return then
}

// countOf is how many of an item right goods have.
func countOf(l []api.Stack, item uint16) int64 {
	for _, s := range l {
		if s.Item == item {
			return s.Count
		}
	}
	return 0
}

// plainList, plainCancel and plainBuy are List, Cancel and Buy by plain words, errors in the order of the promises.
func plainList(l []api.Stack, x api.Listing) ([]api.Stack, api.Errno) {
	switch {
	case !plainListing(x):
		return nil, api.ErrListing
	case !plainGoods(l):
		return nil, api.ErrGoods
	case countOf(l, x.Stack.Item) < x.Stack.Count:
		return nil, api.ErrStock
	}
	return changedBy(l, x.Stack.Item, -x.Stack.Count), api.OK
}

func plainCancel(l []api.Stack, x api.Listing) ([]api.Stack, api.Errno) {
	switch {
	case !plainListing(x):
		return nil, api.ErrListing
	case !plainGoods(l):
		return nil, api.ErrGoods
	case countOf(l, x.Stack.Item)+x.Stack.Count > most:
		return nil, api.ErrOverflow
	}
	then := changedBy(l, x.Stack.Item, x.Stack.Count)
	if len(then) > 20 {
		return nil, api.ErrSlots
	}
	return then, api.OK
}

func plainBuy(d deal) done {
	switch {
	case !plainListing(d.x):
		return done{e: api.ErrListing}
	case !plainAccount(d.buyer), !plainAccount(d.seller):
		return done{e: api.ErrAccount}
	case d.buyer.Wallet < d.x.Price:
		return done{e: api.ErrFunds}
	case d.seller.Wallet+d.x.Price+d.seller.Bank > most:
		return done{e: api.ErrOverflow}
	}
	then, e := plainCancel(d.l, d.x)
	if e != api.OK {
		return done{e: e}
	}
	return done{buyer: has(d.buyer.Wallet-d.x.Price, d.buyer.Bank), seller: has(d.seller.Wallet+d.x.Price, d.seller.Bank), l: then}
}

// plainBytes is a listing's bytes by the library's means, be it right or not.
func plainBytes(x api.Listing) string {
	s := binary.BigEndian.AppendUint32(nil, x.Seller)
	s = binary.BigEndian.AppendUint16(s, x.Stack.Item)
	s = binary.BigEndian.AppendUint64(s, uint64(x.Stack.Count))
	return string(binary.BigEndian.AppendUint64(s, uint64(x.Price)))
}

// plainParse is the listing of bytes by the library's means.
func plainParse(s string) (api.Listing, api.Errno) {
	if len(s) != 22 {
		return noListing(), api.ErrListing
	}
	b := []byte(s)
	x := of(binary.BigEndian.Uint32(b), binary.BigEndian.Uint16(b[4:]), int64(binary.BigEndian.Uint64(b[6:])), int64(binary.BigEndian.Uint64(b[14:])))
	if !plainListing(x) {
		return noListing(), api.ErrListing
	}
	return x, api.OK
}

// one is a work of goods and a listing, and what is asked of it.
type one struct {
	name string
	work func(l []api.Stack, x api.Listing) ([]api.Stack, api.Errno)
	want func(l []api.Stack, x api.Listing) ([]api.Stack, api.Errno)
}

func list() one { return one{"List", shop.List, plainList} }

func cancel() one { return one{"Cancel", shop.Cancel, plainCancel} }

// buy is what Buy does with goods, for somebody who has all coins, of somebody who has none.
func buy() one {
	work := func(l []api.Stack, x api.Listing) ([]api.Stack, api.Errno) {
		_, _, then, e := shop.Buy(has(most, 0), none(), l, x)
		return then, e
	}
	return one{"Buy", work, plainCancel}
}

// wantDone checks what a work answers, and that the goods are what they were.
func (w one) wantDone(t *testing.T, l []api.Stack, x api.Listing, want []api.Stack, e api.Errno) {
	t.Helper()
	was := clone(l)
	then, f := w.work(l, x)
	if !slices.Equal(then, want) || f != e {
		t.Fatalf("%s(%v, %v): %v %v, want %v %v", w.name, brief(l), x, brief(then), f, brief(want), e)
	}
	if !slices.Equal(l, was) {
		t.Fatalf("%s(%v, %v) changed the goods: %v", w.name, brief(was), x, brief(l))
	}
}

// wantRefused checks that a work tells an error, and nothing beside it.
func (w one) wantRefused(t *testing.T, l []api.Stack, x api.Listing, e api.Errno) {
	t.Helper()
	w.wantDone(t, l, x, nil, e)
}

// wantAsTold checks that a work answers what the plain one does, and tells which error that is.
func (w one) wantAsTold(t *testing.T, l []api.Stack, x api.Listing) api.Errno {
	t.Helper()
	want, e := w.want(l, x)
	w.wantDone(t, l, x, want, e)
	return e
}

// row is goods and a listing, and what a work of them must answer.
type row struct {
	l    []api.Stack
	x    api.Listing
	then []api.Stack
	e    api.Errno
}

// wantRows checks a work by hand.
func (w one) wantRows(t *testing.T, rows []row) {
	t.Helper()
	for _, r := range rows {
		w.wantDone(t, r.l, r.x, r.then, r.e)
	}
}

// deal is what Buy is handed, done what it answers.
type deal struct {
	buyer, seller api.Account
	l             []api.Stack
	x             api.Listing
}

type done struct {
	buyer, seller api.Account
	l             []api.Stack
	e             api.Errno
}

// bought is what Buy answers of a deal.
func (d deal) bought() done {
	buyer, seller, l, e := shop.Buy(d.buyer, d.seller, d.l, d.x)
	return done{buyer, seller, l, e}
}

// wantDone checks what Buy answers, and that the goods are what they were.
func (d deal) wantDone(t *testing.T, want done) {
	t.Helper()
	was := clone(d.l)
	got := d.bought()
	if got.buyer != want.buyer || got.seller != want.seller || !slices.Equal(got.l, want.l) || got.e != want.e {
		t.Fatalf("Buy(%v, %v, %v, %v): %v %v %v %v, want %v %v %v %v", d.buyer, d.seller, brief(d.l), d.x, got.buyer, got.seller, brief(got.l), got.e, want.buyer, want.seller, brief(want.l), want.e)
	}
	if !slices.Equal(d.l, was) {
		t.Fatalf("Buy(%v, %v, %v, %v) changed the goods: %v", d.buyer, d.seller, brief(was), d.x, brief(d.l))
	}
}

// wantRefused checks that Buy tells an error, and nothing beside it.
func (d deal) wantRefused(t *testing.T, e api.Errno) {
	t.Helper()
	d.wantDone(t, done{e: e})
}

// wantAsTold checks that Buy answers what the plain one does, and tells which error that is.
func (d deal) wantAsTold(t *testing.T) api.Errno {
	t.Helper()
	want := plainBuy(d)
	d.wantDone(t, want)
	return want.e
}

// wantBytes checks that a listing and bytes are each other's.
func wantBytes(t *testing.T, x api.Listing, s string) {
	t.Helper()
	if got, e := shop.Bytes(x); got != s || e != api.OK {
		t.Fatalf("Bytes(%v): %x %v, want %x", x, got, e, s)
	}
	if got, e := shop.Parse(s); got != x || e != api.OK {
		t.Fatalf("Parse(%x): %v %v, want %v", s, got, e, x)
	}
}

// wantNoBytes checks that a listing has none, and wantNoListing that bytes are no listing's.
func wantNoBytes(t *testing.T, x api.Listing) {
	t.Helper()
	if s, e := shop.Bytes(x); s != "" || e != api.ErrListing {
		t.Fatalf("Bytes(%v): %x %v", x, s, e)
	}
}

func wantNoListing(t *testing.T, s string) {
	t.Helper()
	if x, e := shop.Parse(s); x != noListing() || e != api.ErrListing {
		t.Fatalf("Parse(%x): %v %v", s, x, e)
	}
}

// wantParsedAsTold holds Parse against what the chapter tells of bytes; a listing's bytes are its own.
func wantParsedAsTold(t *testing.T, s string) api.Errno {
	t.Helper()
	x, e := plainParse(s)
	if e != api.OK {
		wantNoListing(t, s)
		return e
	}
	wantBytes(t, x, s)
	return e
}
