package alloc_test

import (
	"encoding/binary"
	"math"
	"slices"
	"strings"
	"testing"

	"bazaar/alloc"
	"bazaar/api"
)

// spares is n spares, from a page on, of many transactions.
func spares(page uint32, n int) []api.Spare {
	var l []api.Spare
	for i := range n {
		l = append(l, api.Spare{Page: page + uint32(i), Tx: uint64(i*i)%97 + 1})
	}
	return l
}

// of is an alloc of these spares.
func of(high, most uint32, l ...api.Spare) api.Alloc {
	return api.Alloc{High: high, Cap: most, Spare: l}
}

// clone is the same alloc in other memory, without spare room.
func clone(a api.Alloc) api.Alloc {
	a.Spare = append(make([]api.Spare, 0, len(a.Spare)), a.Spare...)
	return a
}

// same tells whether two allocs are one.
func same(a, b api.Alloc) bool {
	return a.High == b.High && a.Cap == b.Cap && slices.Equal(a.Spare, b.Spare)
}

// brief is an alloc in a failing test's words.
func brief(a api.Alloc) []any {
	l := a.Spare
	if len(l) > 8 {
		l = l[:8]
	}
	return []any{a.High, a.Cap, len(a.Spare), l}
}

// rightAllocs is allocs that are right, those at the edges among them.
func rightAllocs() []api.Alloc {
	return []api.Alloc{
		of(2, 2), of(2, 3), of(3, 3), of(2, 16384), of(3, 16384), of(16383, 16384), of(16384, 16384), of(16383, 16383),
		{High: 2, Cap: 2, Spare: []api.Spare{}},
		of(3, 3, api.Spare{Page: 2, Tx: 1}),
		of(3, 4, api.Spare{Page: 2, Tx: math.MaxUint64}),
		of(6, 6, api.Spare{Page: 5, Tx: 1}),
		of(6, 7, api.Spare{Page: 3, Tx: 5}, api.Spare{Page: 4, Tx: 2}),
		of(6, 6, api.Spare{Page: 2, Tx: 7}, api.Spare{Page: 5, Tx: 7}),
		of(6, 9, spares(2, 4)...),
		of(300, 16384, api.Spare{Page: 255, Tx: 1 << 32}, api.Spare{Page: 256, Tx: 1 << 63}, api.Spare{Page: 299, Tx: 256}),
		of(16384, 16384, api.Spare{Page: 2, Tx: 3}, api.Spare{Page: 16383, Tx: 2}),
		of(4097, 16384, spares(2, 4095)...),
		of(4098, 4098, spares(2, 4096)...),
		of(4098, 16384, spares(2, 4096)...),
		of(16384, 16384, spares(16384-4096, 4096)...),
		of(16384, 16384, spares(5000, 4095)...),
	}
}

// wrongAllocs is allocs that are not right.
func wrongAllocs() []api.Alloc {
	all := []api.Alloc{
		{}, of(0, 2), of(1, 2), of(2, 0), of(2, 1), of(1, 1), of(3, 2), of(4, 2), of(1, 16384),
		of(17, 16), of(16384, 16383), of(16385, 16384), of(2, 16385), of(16385, 16385), of(16384, 16385),
		of(65538, 65538), of(2, 65538), of(65538, 16384), of(math.MaxUint32, math.MaxUint32), of(2, math.MaxUint32), of(math.MaxUint32, 2),
		of(4099, 4099, spares(2, 4097)...),
		of(16384, 16384, spares(2, 4097)...),
		of(16384, 16384, spares(2, 8000)...),
		of(1, 16, api.Spare{Page: 2, Tx: 1}),
		of(3, 16385, api.Spare{Page: 2, Tx: 1}),
	}
	// Of 6 pages, of which 2 to 5 may be spares.
	for _, l := range [][]api.Spare{
		{{}},
		{{Page: 0, Tx: 1}},
		{{Page: 1, Tx: 1}},
		{{Page: 6, Tx: 1}},
		{{Page: 7, Tx: 1}},
		{{Page: 65538, Tx: 1}},
		{{Page: math.MaxUint32, Tx: 1}},
		{{Page: 2, Tx: 0}},
		{{Page: 2, Tx: 1}, {Page: 3, Tx: 0}},
		{{Page: 2, Tx: 0}, {Page: 3, Tx: 1}},
		{{Page: 3, Tx: 1}, {Page: 3, Tx: 1}},
		{{Page: 3, Tx: 1}, {Page: 3, Tx: 2}},
		{{Page: 5, Tx: 1}, {Page: 5, Tx: 1}},
		{{Page: 3, Tx: 1}, {Page: 2, Tx: 1}},
		{{Page: 2, Tx: 1}, {Page: 4, Tx: 1}, {Page: 3, Tx: 1}},
		{{Page: 4, Tx: 1}, {Page: 2, Tx: 1}, {Page: 3, Tx: 1}},
		{{Page: 2, Tx: 1}, {Page: 3, Tx: 1}, {Page: 2, Tx: 1}},
		{{Page: 1, Tx: 1}, {Page: 2, Tx: 1}},
		{{Page: 2, Tx: 1}, {Page: 5, Tx: 1}, {Page: 6, Tx: 1}},
		{{Page: math.MaxUint32, Tx: 1}, {Page: 2, Tx: 1}},
		{{Page: math.MaxUint32, Tx: 1}, {Page: 0, Tx: 1}},
	} {
		all = append(all, of(6, 6, l...), of(6, 16, l...))
	}
	return all
}

// oldests is numbers of oldest transactions.
func oldests() []uint64 {
	return []uint64{0, 1, 2, 3, 96, 97, 98, 1 << 32, 1 << 63, math.MaxUint64}
}

// take takes a page, and must not be refused.
func take(t *testing.T, a api.Alloc, oldest uint64) (api.Alloc, uint32) {
	t.Helper()
	b, page, e := alloc.Take(a, oldest)
	if e != api.OK {
		t.Fatalf("Take(%v, %d): %v", brief(a), oldest, e)
	}
	return b, page
}

// give gives a page, and must not be refused.
func give(t *testing.T, a api.Alloc, page uint32, tx uint64) api.Alloc {
	t.Helper()
	b, e := alloc.Give(a, page, tx)
	if e != api.OK {
		t.Fatalf("Give(%v, %d, %d): %v", brief(a), page, tx, e)
	}
	return b
}

// wantTaken checks what Take answers, and that a is what it was.
func wantTaken(t *testing.T, a api.Alloc, oldest uint64, want api.Alloc, page uint32, e api.Errno) {
	t.Helper()
	was := clone(a)
	b, p, f := alloc.Take(a, oldest)
	if !same(b, want) || p != page || f != e {
		t.Fatalf("Take(%v, %d): %v %d %v, want %v %d %v", brief(a), oldest, brief(b), p, f, brief(want), page, e)
	}
	if !same(a, was) {
		t.Fatalf("Take(%v, %d) changed it: %v", brief(was), oldest, brief(a))
	}
}

// wantGiven checks what Give answers, and that a is what it was.
func wantGiven(t *testing.T, a api.Alloc, page uint32, tx uint64, want api.Alloc, e api.Errno) {
	t.Helper()
	was := clone(a)
	b, f := alloc.Give(a, page, tx)
	if !same(b, want) || f != e {
		t.Fatalf("Give(%v, %d, %d): %v %v, want %v %v", brief(a), page, tx, brief(b), f, brief(want), e)
	}
	if !same(a, was) {
		t.Fatalf("Give(%v, %d, %d) changed it: %v", brief(was), page, tx, brief(a))
	}
}

// P5.1: Right.

func TestRight(t *testing.T) {
	for _, a := range rightAllocs() {
		if !alloc.Right(a) {
			t.Errorf("not right: %v", brief(a))
		}
	}
	for _, a := range wrongAllocs() {
		if alloc.Right(a) {
			t.Errorf("right: %v", brief(a))
		}
	}
}

func TestRightOfAllCaps(t *testing.T) {
	for most := range uint32(16500) {
		for _, high := range []uint32{0, 1, 2, 3, most - 1, most, most + 1, 16384, 16385} {
			want := most >= 2 && most <= 16384 && high >= 2 && high <= most
			if alloc.Right(of(high, most)) != want {
				t.Fatalf("High %d, Cap %d: not %v", high, most, want)
			}
		}
	}
}

func TestRightOfAllPages(t *testing.T) {
	for _, high := range []uint32{2, 3, 4, 100, 16383, 16384} {
		for page := range uint32(16500) {
			want := page >= 2 && page < high
			if alloc.Right(of(high, 16384, api.Spare{Page: page, Tx: 1})) != want {
				t.Fatalf("High %d, spare %d: not %v", high, page, want)
			}
			if alloc.Right(of(high, 16384, api.Spare{Page: page})) {
				t.Fatalf("High %d, spare %d of Tx 0: right", high, page)
			}
		}
	}
}

// All lists of up to 4 spares of the pages 1 to 6, of which 2 to 5 are there.
func TestRightOfAllShortLists(t *testing.T) {
	lists := [][]api.Spare{nil}
	for at := 0; at < len(lists) && len(lists[at]) < 4; at++ {
		for page := uint32(1); page <= 6; page++ {
			lists = append(lists, append(slices.Clone(lists[at]), api.Spare{Page: page, Tx: 1}))
		}
	}
	for _, l := range lists {
		want := true
		for i, s := range l {
			want = want && s.Page >= 2 && s.Page <= 5 && (i == 0 || l[i-1].Page < s.Page)
		}
		if alloc.Right(of(6, 8, l...)) != want {
			t.Fatalf("%v: not %v", l, want)
		}
	}
}

// A single wrong spare is found wherever it stands.
func TestRightOfOneWrongSpareOfMany(t *testing.T) {
	for _, n := range []int{1, 2, 19, 20, 4096} {
		for _, at := range []int{0, n / 2, n - 1} {
			for _, wrong := range []api.Spare{{Page: 1, Tx: 1}, {Page: 5000, Tx: 1}, {Page: 2 + uint32(at), Tx: 0}} {
				a := of(5000, 5000, spares(2, n)...)
				if !alloc.Right(a) {
					t.Fatalf("%d spares: not right", n)
				}
				a.Spare[at] = wrong
				if alloc.Right(a) {
					t.Errorf("%d spares, %v at %d: right", n, wrong, at)
				}
			}
		}
	}
}

// P5.1: Take.

func TestTakeOfTheExample(t *testing.T) {
	a := of(6, 16, api.Spare{Page: 3, Tx: 5}, api.Spare{Page: 4, Tx: 2})
	for _, c := range []struct {
		oldest uint64
		page   uint32
	}{{2, 4}, {2, 6}, {5, 3}, {5, 7}, {0, 8}} {
		var page uint32
		a, page = take(t, a, c.oldest)
		if page != c.page {
			t.Fatalf("as of %d: %d, want %d", c.oldest, page, c.page)
		}
	}
	if !same(a, of(9, 16)) {
		t.Fatal(a)
	}
}

func TestTakeOfASpare(t *testing.T) {
	for _, tx := range []uint64{1, 2, 255, 256, 1 << 32, 1 << 63, math.MaxUint64} {
		for _, high := range []uint32{5, 9} {
			a := of(high, 9, api.Spare{Page: 4, Tx: tx})
			// The transaction that is the oldest one may take what was let go in it, not one before.
			wantTaken(t, a, tx, of(high, 9), 4, api.OK)
			wantTaken(t, a, math.MaxUint64, of(high, 9), 4, api.OK)
			for _, less := range []uint64{0, tx / 2, tx - 1} {
				if high == 9 {
					wantTaken(t, a, less, a, 0, api.ErrFull)
				} else {
					wantTaken(t, a, less, of(6, 9, a.Spare...), 5, api.OK)
				}
			}
		}
	}
}

// The first one whose Tx will do is taken, be its Tx the greatest or the least of those.
func TestTakeOfTheFirstSpare(t *testing.T) {
	l := []api.Spare{{Page: 2, Tx: 9}, {Page: 5, Tx: 7}, {Page: 6, Tx: 1}, {Page: 7, Tx: 7}, {Page: 9, Tx: 3}}
	a := of(10, 10, l...)
	for _, c := range []struct {
		oldest uint64
		at     int
	}{{1, 2}, {2, 2}, {3, 2}, {6, 2}, {7, 1}, {8, 1}, {9, 0}, {10, 0}, {math.MaxUint64, 0}} {
		rest := slices.Concat(l[:c.at], l[c.at+1:])
		wantTaken(t, a, c.oldest, of(10, 10, rest...), l[c.at].Page, api.OK)
	}
	wantTaken(t, a, 0, a, 0, api.ErrFull)
	// A spare of the same Tx behind it stays.
	two := of(10, 10, api.Spare{Page: 3, Tx: 4}, api.Spare{Page: 4, Tx: 4})
	wantTaken(t, two, 4, of(10, 10, api.Spare{Page: 4, Tx: 4}), 3, api.OK)
	// The last one of a list.
	last := of(10, 10, api.Spare{Page: 3, Tx: 4}, api.Spare{Page: 9, Tx: 2})
	wantTaken(t, last, 2, of(10, 10, api.Spare{Page: 3, Tx: 4}), 9, api.OK)
}

// A spare is taken ahead of a page that was none yet.
func TestTakeOfASpareAheadOfHigh(t *testing.T) {
	wantTaken(t, of(5, 9, api.Spare{Page: 4, Tx: 3}), 3, of(5, 9), 4, api.OK)
	wantTaken(t, of(5, 9, api.Spare{Page: 2, Tx: 4}, api.Spare{Page: 4, Tx: 3}), 3, of(5, 9, api.Spare{Page: 2, Tx: 4}), 4, api.OK)
}

func TestTakeOfHigh(t *testing.T) {
	for _, oldest := range oldests() {
		for _, c := range []struct{ high, most uint32 }{{2, 3}, {2, 16384}, {3, 4}, {100, 16384}, {16382, 16383}, {16383, 16384}} {
			wantTaken(t, of(c.high, c.most), oldest, of(c.high+1, c.most), c.high, api.OK)
		}
		for _, most := range []uint32{2, 3, 4, 100, 16383, 16384} {
			wantTaken(t, of(most, most), oldest, of(most, most), 0, api.ErrFull)
		}
	}
	// Beside spares that are still read.
	l := []api.Spare{{Page: 2, Tx: 9}, {Page: 7, Tx: 8}}
	wantTaken(t, of(8, 9, l...), 7, of(9, 9, l...), 8, api.OK)
	wantTaken(t, of(9, 9, l...), 7, of(9, 9, l...), 0, api.ErrFull)
	full := of(16384, 16384, spares(2, 4096)...)
	wantTaken(t, full, 0, full, 0, api.ErrFull)
	wantTaken(t, of(16383, 16384, full.Spare...), 0, full, 16383, api.OK)
	wantTaken(t, full, 1, of(16384, 16384, full.Spare[1:]...), 2, api.OK)
}

func TestTakeRefuses(t *testing.T) {
	for _, a := range wrongAllocs() {
		for _, oldest := range oldests() {
			wantTaken(t, a, oldest, api.Alloc{}, 0, api.ErrAlloc)
		}
	}
}

// P5.1: Give.

func TestGive(t *testing.T) {
	a := of(10, 12, api.Spare{Page: 4, Tx: 3}, api.Spare{Page: 7, Tx: 5})
	for page := range uint32(14) {
		for _, tx := range []uint64{1, 3, 4, 1 << 32, math.MaxUint64} {
			if page < 2 || page >= 10 || page == 4 || page == 7 {
				wantGiven(t, a, page, tx, api.Alloc{}, api.ErrAlloc)
				continue
			}
			l := append(slices.Clone(a.Spare), api.Spare{Page: page, Tx: tx})
			slices.SortFunc(l, func(x, y api.Spare) int { return int(x.Page) - int(y.Page) })
			wantGiven(t, a, page, tx, of(10, 12, l...), api.OK)
		}
		wantGiven(t, a, page, 0, api.Alloc{}, api.ErrAlloc)
	}
}

func TestGiveOfTheFirstSpare(t *testing.T) {
	for _, c := range []struct{ high, page uint32 }{{3, 2}, {9, 2}, {9, 5}, {9, 8}, {16384, 16383}} {
		wantGiven(t, of(c.high, 16384), c.page, 7, of(c.high, 16384, api.Spare{Page: c.page, Tx: 7}), api.OK)
	}
}

func TestGiveOfOtherPages(t *testing.T) {
	for _, high := range []uint32{2, 3, 4, 100, 16384} {
		for _, page := range []uint32{0, 1, high, high + 1, 16384, 16385, 65538, 1 << 31, math.MaxUint32} {
			if page >= 2 && page < high {
				continue
			}
			wantGiven(t, of(high, 16384), page, 1, api.Alloc{}, api.ErrAlloc)
		}
	}
	// High is refused whether there are pages behind it or not.
	wantGiven(t, of(6, 6), 6, 1, api.Alloc{}, api.ErrAlloc)
	wantGiven(t, of(6, 7), 6, 1, api.Alloc{}, api.ErrAlloc)
	wantGiven(t, of(6, 7), 5, 1, of(6, 7, api.Spare{Page: 5, Tx: 1}), api.OK)
}

// A page that is a spare is refused, be its transaction the same one or not.
func TestGiveOfASpare(t *testing.T) {
	for _, n := range []int{1, 2, 3, 20, 4095} {
		a := of(16384, 16384, spares(2, n)...)
		for at := 0; at < n; at += max(1, n/100) {
			s := a.Spare[at]
			for _, tx := range []uint64{1, s.Tx, s.Tx + 1} {
				wantGiven(t, a, s.Page, tx, api.Alloc{}, api.ErrAlloc)
			}
		}
		wantGiven(t, a, a.Spare[n-1].Page, 1, api.Alloc{}, api.ErrAlloc)
	}
}

func TestGiveOfTheLastSpare(t *testing.T) {
	l := spares(5, 4095)
	a := of(16384, 16384, l...)
	for _, page := range []uint32{2, 4, 5 + 4095, 16383} {
		s := api.Spare{Page: page, Tx: 6}
		want := append(slices.Clone(l), s)
		if page < 5 {
			want = append([]api.Spare{s}, l...)
		}
		full := of(16384, 16384, want...)
		wantGiven(t, a, page, 6, full, api.OK)
		for _, more := range []uint32{3, 10000, 16382} {
			wantGiven(t, full, more, 6, api.Alloc{}, api.ErrAlloc)
		}
	}
}

func TestGiveRefuses(t *testing.T) {
	for _, a := range wrongAllocs() {
		for _, page := range []uint32{0, 1, 2, 3, 4, 5, 6, 16383, math.MaxUint32} {
			for _, tx := range []uint64{0, 1, math.MaxUint64} {
				wantGiven(t, a, page, tx, api.Alloc{}, api.ErrAlloc)
			}
		}
	}
}

// R3: what is answered shares no list with what was handed in.

// fill writes junk into a list, and into the room behind it.
func fill(l []api.Spare, s api.Spare) {
	l = l[:cap(l)]
	for i := range l {
		l[i] = s
	}
}

// roomy is the same alloc, with room behind its spares that is not empty, and all the memory of these.
func roomy(a api.Alloc) (api.Alloc, []api.Spare) {
	all := slices.Concat(a.Spare, []api.Spare{{Page: 91, Tx: 92}, {Page: 93, Tx: 94}, {Page: 95, Tx: 96}})
	a.Spare = all[:len(a.Spare)]
	return a, all
}

// wantApart checks that what a call answers shares no memory with what it is handed.
func wantApart(t *testing.T, a api.Alloc, call func(api.Alloc) api.Alloc) {
	t.Helper()
	a, all := roomy(a)
	was := slices.Clone(all)
	b, c := call(a), call(a)
	if !slices.Equal(all, was) {
		t.Fatalf("%v is written into: %v", brief(a), all)
	}
	want := clone(b)
	fill(c.Spare, api.Spare{Page: 81, Tx: 82})
	if !slices.Equal(all, was) || !same(b, want) {
		t.Fatalf("%v: an answer shares memory with it, or with another one", brief(a))
	}
	fill(all, api.Spare{Page: 71, Tx: 72})
	if !same(b, want) {
		t.Fatalf("%v is kept in an answer", brief(a))
	}
}

func TestAnswersShareNoList(t *testing.T) {
	for _, a := range append(rightAllocs(), wrongAllocs()...) {
		for _, oldest := range oldests() {
			wantApart(t, a, func(a api.Alloc) api.Alloc {
				b, _, _ := alloc.Take(a, oldest)
				return b
			})
		}
		// Taken from the middle, and as the last one.
		for _, s := range a.Spare[:min(len(a.Spare), 20)] {
			wantApart(t, a, func(a api.Alloc) api.Alloc {
				b, _, _ := alloc.Take(a, s.Tx)
				return b
			})
		}
		for _, page := range []uint32{0, 1, 2, 3, 4, 5, 6, 100, 16383} {
			wantApart(t, a, func(a api.Alloc) api.Alloc {
				b, _ := alloc.Give(a, page, 5)
				return b
			})
		}
		wantApart(t, a, func(a api.Alloc) api.Alloc {
			alloc.Right(a)
			return api.Alloc{}
		})
	}
}

// P5.2: Chunk.

// plain is a body as the chapter tells it, by the library's means, be its number of spares right or not.
func plain(next uint32, l []api.Spare) string {
	b := binary.BigEndian.AppendUint32(nil, next)
	b = append(b, byte(len(l)))
	for _, s := range l {
		b = binary.BigEndian.AppendUint32(b, s.Page)
		b = binary.BigEndian.AppendUint64(b, s.Tx)
	}
	return string(b)
}

// lists is lists of up to 19 spares, those at the edges, and those that no alloc has, among them.
func lists() [][]api.Spare {
	all := [][]api.Spare{
		{},
		{{}},
		{{Page: 0x01020304, Tx: 0x05060708090a0b0c}},
		{{Page: math.MaxUint32, Tx: math.MaxUint64}},
		{{Page: 2, Tx: 1}, {Page: 2, Tx: 1}},
		{{Page: 9, Tx: 1 << 32}, {Page: 3, Tx: 1 << 63}, {Page: 0, Tx: 256}},
		slices.Repeat([]api.Spare{{Page: math.MaxUint32, Tx: math.MaxUint64}}, 19),
		slices.Repeat([]api.Spare{{}}, 19),
	}
	for n := range 20 {
		all = append(all, spares(2, n), spares(16384-uint32(n), n))
	}
	return all
}

// nexts is numbers of next chunks.
func nexts() []uint32 {
	return []uint32{0, 1, 2, 255, 256, 258, 16383, 16384, 0x01020304, 1 << 31, math.MaxUint32}
}

func TestChunkByHand(t *testing.T) {
	want := "\x01\x02\x03\x04" + "\x02" +
		"\x00\x00\x3f\xff" + "\x01\x02\x03\x04\x05\x06\x07\x08" +
		"\x00\x00\x00\x02" + "\x00\x00\x00\x00\x00\x00\x01\x00"
	s, e := alloc.Chunk(0x01020304, []api.Spare{{Page: 16383, Tx: 0x0102030405060708}, {Page: 2, Tx: 256}})
	if s != want || e != api.OK {
		t.Fatalf("%x %v, want %x", s, e, want)
	}
	for _, l := range [][]api.Spare{nil, {}} {
		if s, e := alloc.Chunk(0, l); s != "\x00\x00\x00\x00\x00" || e != api.OK {
			t.Fatalf("%x %v", s, e)
		}
	}
}

func TestChunk(t *testing.T) {
	for _, next := range nexts() {
		for _, l := range lists() {
			was := slices.Clone(l)
			s, e := alloc.Chunk(next, l)
			if s != plain(next, l) || len(s) != 5+12*len(l) || e != api.OK {
				t.Fatalf("Chunk(%d, %v): %x %v", next, l, s, e)
			}
			if len(s) > api.MaxBody {
				t.Fatalf("%d spares have no room in a page", len(l))
			}
			if !slices.Equal(l, was) {
				t.Fatal("Chunk wrote into its list")
			}
		}
	}
}

func TestChunkRefuses(t *testing.T) {
	if s, e := alloc.Chunk(3, spares(2, 19)); s != plain(3, spares(2, 19)) || e != api.OK {
		t.Fatalf("of 19: %x %v", s, e)
	}
	for _, n := range []int{20, 21, 38, 255, 256, 257, 275, 4096, 65536} {
		if s, e := alloc.Chunk(3, spares(2, n)); s != "" || e != api.ErrAlloc {
			t.Errorf("of %d: %x %v", n, s, e)
		}
	}
	// How many there are counts, not how many there is room for.
	if s, e := alloc.Chunk(3, make([]api.Spare, 1, 100)); s != plain(3, make([]api.Spare, 1)) || e != api.OK {
		t.Errorf("%x %v", s, e)
	}
}

// P5.2: Parse.

// wantParsed checks what bytes tell.
func wantParsed(t *testing.T, body string, next uint32, l []api.Spare) {
	t.Helper()
	if n, m, e := alloc.Parse(body); n != next || !slices.Equal(m, l) || e != api.OK {
		t.Fatalf("Parse(%x): %d %v %v, want %d %v", body, n, m, e, next, l)
	}
}

// wantNone checks that bytes tell nothing.
func wantNone(t *testing.T, body string) {
	t.Helper()
	if n, l, e := alloc.Parse(body); n != 0 || len(l) != 0 || e != api.ErrAlloc {
		t.Fatalf("Parse(%x): %d %v %v", body, n, l, e)
	}
}

func TestParse(t *testing.T) {
	for _, next := range nexts() {
		for _, l := range lists() {
			wantParsed(t, plain(next, l), next, l)
		}
	}
}

func TestParseRefusesWrongSizes(t *testing.T) {
	for _, next := range nexts() {
		for _, l := range lists() {
			s := plain(next, l)
			for n := range len(s) {
				wantNone(t, s[:n])
			}
			for _, more := range []string{"\x00", "x", strings.Repeat("\x00", 11), strings.Repeat("\x00", 12), strings.Repeat("\x00", 13), strings.Repeat("\xff", 232)} {
				wantNone(t, s+more)
			}
			wantNone(t, s+strings.Repeat("\x00", 237-len(s)))
		}
	}
	wantNone(t, "")
	wantNone(t, strings.Repeat("\x00", 1<<20))
}

// Each number of spares there may be, in each size of a body.
func TestParseOfAllNumbers(t *testing.T) {
	for n := range 256 {
		for size := range 300 {
			s := "\x00\x00\x00\x07" + string([]byte{byte(n)}) + strings.Repeat("\x00", size)
			if n <= 19 && size == 12*n {
				wantParsed(t, s, 7, make([]api.Spare, n))
			} else {
				wantNone(t, s)
			}
		}
		if n > 19 {
			wantNone(t, plain(7, spares(2, n)))
		}
	}
	// Bytes whose number wraps round to one that would do.
	for _, n := range []int{256, 257, 275} {
		wantNone(t, plain(7, spares(2, n)))
	}
}

func TestParseAnswersNewLists(t *testing.T) {
	for _, l := range lists() {
		s := plain(5, l)
		_, a, _ := alloc.Parse(s)
		_, b, _ := alloc.Parse(s)
		fill(a, api.Spare{Page: 81, Tx: 82})
		if !slices.Equal(b, l) {
			t.Fatalf("%v: two answers share a list", l)
		}
		wantParsed(t, s, 5, l)
	}
}

func TestBodiesAreOneToOne(t *testing.T) {
	for _, next := range nexts() {
		for _, l := range lists() {
			s, e := alloc.Chunk(next, l)
			if e != api.OK {
				t.Fatal(e)
			}
			wantParsed(t, s, next, l)
			// One byte that is another one tells something else, or nothing.
			for at := range len(s) {
				x := s[:at] + string([]byte{s[at] ^ 0x10}) + s[at+1:]
				n, m, e := alloc.Parse(x)
				if e == api.OK && n == next && slices.Equal(m, l) {
					t.Fatalf("%x and %x tell the same", s, x)
				}
				if e == api.OK && plain(n, m) != x {
					t.Fatalf("%x tells %d %v", x, n, m)
				}
			}
		}
	}
}

// P5.3.

// times is how many times a page is taken, as of one transaction, till there is none.
func times(a api.Alloc, page uint32, oldest uint64) int {
	n := 0
	for range api.MaxPages {
		b, got, e := alloc.Take(a, oldest)
		if e != api.OK {
			break
		}
		if got == page {
			n++
		}
		a = b
	}
	return n
}

// What is given is taken again by whoever reads nothing older, once, and by nobody else.
func TestWhatIsGivenIsTakenAgain(t *testing.T) {
	for _, a := range rightAllocs() {
		page := a.High - 1
		if len(a.Spare) == api.MaxSpares || page < 2 || slices.ContainsFunc(a.Spare, func(s api.Spare) bool { return s.Page == page }) {
			continue
		}
		for _, tx := range []uint64{1, 50, math.MaxUint64} {
			b := give(t, a, page, tx)
			if n := times(b, page, tx-1); n != 0 {
				t.Fatalf("%d of %d was taken as of %d", page, tx, tx-1)
			}
			if n := times(b, page, tx); n != 1 {
				t.Fatalf("%d of %d was taken %d times as of %d", page, tx, n, tx)
			}
		}
	}
}

// What is taken and given back leaves the alloc as it was, if it was a spare.
func TestGiveUndoesTake(t *testing.T) {
	for _, a := range rightAllocs() {
		for _, oldest := range oldests() {
			b, page, e := alloc.Take(a, oldest)
			if e != api.OK || page == a.High {
				continue
			}
			at := slices.IndexFunc(a.Spare, func(s api.Spare) bool { return s.Page == page })
			wantGiven(t, b, page, a.Spare[at].Tx, a, api.OK)
		}
	}
}

// All pages there may be are taken, one by one, given, and taken again.
func TestAllPages(t *testing.T) {
	for _, most := range []uint32{2, 3, 4, 40, 3000} {
		a := of(2, most)
		for round := range uint64(3) {
			for want := uint32(2); want < most; want++ {
				var page uint32
				a, page = take(t, a, round)
				if page != want {
					t.Fatalf("Cap %d, round %d: %d, want %d", most, round, page, want)
				}
			}
			wantTaken(t, a, math.MaxUint64, of(most, most), 0, api.ErrFull)
			for i := range most - 2 {
				// The last ones first.
				a = give(t, a, most-1-i, round+1)
			}
			wantTaken(t, a, round, a, 0, api.ErrFull)
		}
	}
	a := of(2, 16384)
	for want := uint32(2); want < 16384; want++ {
		var page uint32
		a, page = take(t, a, 0)
		if page != want {
			t.Fatalf("%d, want %d", page, want)
		}
	}
	wantTaken(t, a, math.MaxUint64, of(16384, 16384), 0, api.ErrFull)
}

// model is which pages there are, as a plain table: of a page below high the transaction that let it go, or 0 if somebody has it.
type model struct {
	gone map[uint32]uint64
	high uint32
	most uint32
}

// take is the page that is to be taken, and whether there is one.
func (m *model) take(oldest uint64) (uint32, bool) {
	for page := uint32(2); page < m.high; page++ {
		if tx := m.gone[page]; tx > 0 && tx <= oldest {
			m.gone[page] = 0
			return page, true
		}
	}
	if m.high == m.most {
		return 0, false
	}
	m.gone[m.high] = 0
	m.high++
	return m.high - 1, true
}

// had is the pages that somebody has, in order.
func (m *model) had() []uint32 {
	var all []uint32
	for page := uint32(2); page < m.high; page++ {
		if m.gone[page] == 0 {
			all = append(all, page)
		}
	}
	return all
}

// alloc is the alloc of the table: each page below high that nobody has, once.
func (m *model) alloc() api.Alloc {
	a := of(m.high, m.most)
	for page := uint32(2); page < m.high; page++ {
		if tx := m.gone[page]; tx > 0 {
			a.Spare = append(a.Spare, api.Spare{Page: page, Tx: tx})
		}
	}
	return a
}

// A long run beside the table: pages are never lost, nor two at once, and none is taken that somebody may still read.
func TestALongRun(t *testing.T) {
	x := uint32(5)
	next := func(n int) int {
		x = x*1664525 + 1013904223
		return int(x>>8) % n
	}
	for _, most := range []uint32{2, 3, 5, 17, 60, 300} {
		a, m := of(2, most), &model{gone: map[uint32]uint64{}, high: 2, most: most}
		for tx := uint64(1); tx < 1500; tx++ {
			oldest := tx - uint64(next(int(min(tx, 9))))
			for range next(6) {
				want, ok := m.take(oldest)
				if !ok {
					wantTaken(t, a, oldest, a, 0, api.ErrFull)
					continue
				}
				var page uint32
				a, page = take(t, a, oldest)
				if page != want {
					t.Fatalf("Cap %d, as of %d: %d, want %d", most, oldest, page, want)
				}
			}
			for range next(6) {
				had := m.had()
				if len(had) == 0 {
					break
				}
				page := had[next(len(had))]
				m.gone[page] = tx
				a = give(t, a, page, tx)
				wantGiven(t, a, page, tx, api.Alloc{}, api.ErrAlloc)
			}
			if !alloc.Right(a) || !same(a, m.alloc()) {
				t.Fatalf("Cap %d, behind %d: %v, want %v", most, tx, brief(a), brief(m.alloc()))
			}
		}
	}
}

// Spares that go through chunks, nineteen in each, are what they were.
func TestSparesThroughChunks(t *testing.T) {
	for _, n := range []int{0, 1, 18, 19, 20, 37, 38, 39, 4096} {
		var all []api.Spare
		l := spares(2, n)
		for i := 0; i < n; i += 19 {
			body, e := alloc.Chunk(uint32(i), l[i:min(n, i+19)])
			if e != api.OK {
				t.Fatal(e)
			}
			next, part, e := alloc.Parse(body)
			if next != uint32(i) || e != api.OK {
				t.Fatal(next, e)
			}
			all = append(all, part...)
		}
		if !slices.Equal(all, l) || !alloc.Right(of(5000, 5000, all...)) {
			t.Fatalf("%d spares: %v", n, all)
		}
	}
}
