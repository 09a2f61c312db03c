package money_test

import (
	"encoding/binary"
	"math"
	"math/big"
	"slices"
	"strings"
	"testing"

	"bazaar/api"
	"bazaar/money"
)

// most is the greatest amount.
const most = 1152921504606846976

// edges is the numbers at the ends of what is an amount, and of what is a number.
func edges() []int64 {
	return []int64{math.MinInt64, -1, 0, 1, most - 1, most, most + 1, math.MaxInt64}
}

// numbers is the edges and numbers between them, powers of two and what lies beside them.
func numbers() []int64 {
	all := append(edges(), 3, 5, 7, 10, 1000000, 1234567890123456789, math.MinInt64+1, math.MaxInt64-1, most/3, most/3+1, most-1000)
	for shift := 1; shift <= 62; shift++ {
		n := int64(1) << shift
		all = append(all, n, -n)
		if shift%3 == 0 || shift > 57 {
			all = append(all, n-1, n+1, 1-n)
		}
	}
	slices.Sort(all)
	return slices.Compact(all)
}

// fewer is some of the numbers, for threes of them.
func fewer() []int64 {
	all := append(edges(), 2, 3, 5, 7, 1<<30, 1<<59-1, 1<<59, 1<<59+1, 1<<61, 1<<62, -2, -most, -most-1, math.MinInt64+1, math.MaxInt64-1)
	slices.Sort(all)
	return slices.Compact(all)
}

// plainRight tells whether a number is an amount, by the chapter's words.
func plainRight(n int64) bool {
	return n >= 0 && n <= 1152921504606846976
}

// fits is a number that may be of any size, or an error if it is no amount.
func fits(n *big.Int, otherwise api.Errno) (int64, api.Errno) {
	if n.Sign() < 0 || n.Cmp(big.NewInt(most)) > 0 {
		return 0, otherwise
	}
	return n.Int64(), api.OK
}

// plain is what comes of two amounts by means that don't overflow.
func plain(work func(z, x, y *big.Int) *big.Int, a, b int64, otherwise api.Errno) (int64, api.Errno) {
	if !plainRight(a) || !plainRight(b) {
		return 0, api.ErrMoney
	}
	return fits(work(new(big.Int), big.NewInt(a), big.NewInt(b)), otherwise)
}

func plainAdd(a, b int64) (int64, api.Errno) { return plain((*big.Int).Add, a, b, api.ErrOverflow) }

func plainSub(a, b int64) (int64, api.Errno) { return plain((*big.Int).Sub, a, b, api.ErrFunds) }

func plainMul(a, b int64) (int64, api.Errno) { return plain((*big.Int).Mul, a, b, api.ErrOverflow) }

func plainMove(from, to, n int64) (int64, int64, api.Errno) {
	less, e := plainSub(from, n)
	if e != api.OK {
		return 0, 0, e
	}
	more, e := plainAdd(to, n)
	if e != api.OK {
		return 0, 0, e
	}
	return less, more, api.OK
}

// plainBytes is numbers' bytes by the library's means, be they amounts or not.
func plainBytes(l ...int64) string {
	var s []byte
	for _, n := range l {
		s = binary.BigEndian.AppendUint64(s, uint64(n))
	}
	return string(s)
}

// two is a work of two numbers, and what is asked of it.
type two struct {
	name string
	work func(a, b int64) (int64, api.Errno)
	want func(a, b int64) (int64, api.Errno)
}

func twos() []two {
	return []two{{"Add", money.Add, plainAdd}, {"Sub", money.Sub, plainSub}, {"Mul", money.Mul, plainMul}}
}

// row is two numbers, and what a work of them must tell.
type row struct {
	a, b, n int64
	e       api.Errno
}

// wantRows checks a work of two numbers by hand.
func wantRows(t *testing.T, name string, work func(a, b int64) (int64, api.Errno), rows []row) {
	t.Helper()
	for _, r := range rows {
		if n, e := work(r.a, r.b); n != r.n || e != r.e {
			t.Errorf("%s(%d, %d): %d %v, want %d %v", name, r.a, r.b, n, e, r.n, r.e)
		}
	}
}

// wantAmounts checks that amounts and bytes are each other's.
func wantAmounts(t *testing.T, s string, l ...int64) {
	t.Helper()
	if got, e := money.Bytes(l...); got != s || e != api.OK {
		t.Fatalf("Bytes(%v): %x %v, want %x", l, got, e, s)
	}
	if got, e := money.Parse(s); !slices.Equal(got, l) || e != api.OK {
		t.Fatalf("Parse(%x): %v %v, want %v", s, got, e, l)
	}
}

// wantNoBytes checks that numbers have none.
func wantNoBytes(t *testing.T, l ...int64) {
	t.Helper()
	if s, e := money.Bytes(l...); s != "" || e != api.ErrMoney {
		t.Fatalf("Bytes(%v): %x %v", l, s, e)
	}
}

// wantNoAmounts checks that bytes are no amounts'.
func wantNoAmounts(t *testing.T, s string) {
	t.Helper()
	if l, e := money.Parse(s); len(l) != 0 || e != api.ErrMoney {
		t.Fatalf("Parse(%x): %v %v", s, l, e)
	}
}

// parsed is the amounts of bytes, and must not be refused.
func parsed(t *testing.T, s string) []int64 {
	t.Helper()
	l, e := money.Parse(s)
	if e != api.OK {
		t.Fatalf("Parse(%x): %v", s, e)
	}
	return l
}

// P11.1: Right, Add, Sub and Mul.

func TestRight(t *testing.T) {
	for _, n := range []int64{0, 1, 2, 5, 1 << 30, most / 2, most - 1, most} {
		if !money.Right(n) {
			t.Errorf("not right: %d", n)
		}
	}
	for _, n := range []int64{math.MinInt64, math.MinInt64 + 1, -most - 1, -most, -2, -1, most + 1, most + 2, 2 * most, 1 << 62, math.MaxInt64 - 1, math.MaxInt64} {
		if money.Right(n) {
			t.Errorf("right: %d", n)
		}
	}
	for _, n := range numbers() {
		if money.Right(n) != plainRight(n) {
			t.Errorf("Right(%d): %v", n, money.Right(n))
		}
	}
}

func TestAddByHand(t *testing.T) {
	wantRows(t, "Add", money.Add, []row{
		{0, 0, 0, api.OK},
		{0, 1, 1, api.OK},
		{1, 0, 1, api.OK},
		{2, 3, 5, api.OK},
		{most - 1, 1, most, api.OK},
		{1, most - 1, most, api.OK},
		{most, 0, most, api.OK},
		{0, most, most, api.OK},
		{most / 2, most / 2, most, api.OK},
		{most, 1, 0, api.ErrOverflow},
		{1, most, 0, api.ErrOverflow},
		{most - 1, 2, 0, api.ErrOverflow},
		{most / 2, most/2 + 1, 0, api.ErrOverflow},
		{most - 1, most - 1, 0, api.ErrOverflow},
		{most, most, 0, api.ErrOverflow},
		{-1, 1, 0, api.ErrMoney},
		{1, -1, 0, api.ErrMoney},
		{most + 1, -1, 0, api.ErrMoney},
		{-1, most + 1, 0, api.ErrMoney},
		{most + 1, 0, 0, api.ErrMoney},
		{0, most + 1, 0, api.ErrMoney},
		{most, most + 1, 0, api.ErrMoney},
		{most + 1, most, 0, api.ErrMoney},
		{most, -1, 0, api.ErrMoney},
		{math.MaxInt64, math.MaxInt64, 0, api.ErrMoney},
		{math.MinInt64, math.MinInt64, 0, api.ErrMoney},
		{math.MinInt64, math.MaxInt64, 0, api.ErrMoney},
		{math.MaxInt64, math.MinInt64, 0, api.ErrMoney},
		{math.MaxInt64, 1, 0, api.ErrMoney},
		{0, math.MinInt64, 0, api.ErrMoney},
	})
}

func TestSubByHand(t *testing.T) {
	wantRows(t, "Sub", money.Sub, []row{
		{0, 0, 0, api.OK},
		{1, 1, 0, api.OK},
		{5, 2, 3, api.OK},
		{1, 0, 1, api.OK},
		{most, 0, most, api.OK},
		{most, 1, most - 1, api.OK},
		{most, most - 1, 1, api.OK},
		{most, most, 0, api.OK},
		{most - 1, most - 1, 0, api.OK},
		{0, 1, 0, api.ErrFunds},
		{1, 2, 0, api.ErrFunds},
		{4, 5, 0, api.ErrFunds},
		{0, most, 0, api.ErrFunds},
		{most - 1, most, 0, api.ErrFunds},
		{-1, -1, 0, api.ErrMoney},
		{-1, 0, 0, api.ErrMoney},
		{0, -1, 0, api.ErrMoney},
		{-1, 1, 0, api.ErrMoney},
		{1, -1, 0, api.ErrMoney},
		{most + 1, most + 1, 0, api.ErrMoney},
		{most + 1, 1, 0, api.ErrMoney},
		{0, most + 1, 0, api.ErrMoney},
		{most, most + 1, 0, api.ErrMoney},
		{math.MinInt64, math.MinInt64, 0, api.ErrMoney},
		{math.MinInt64, 1, 0, api.ErrMoney},
		{0, math.MinInt64, 0, api.ErrMoney},
		{math.MaxInt64, math.MaxInt64, 0, api.ErrMoney},
		{math.MaxInt64, -1, 0, api.ErrMoney},
		{math.MinInt64, math.MaxInt64, 0, api.ErrMoney},
	})
}

func TestMulByHand(t *testing.T) {
	wantRows(t, "Mul", money.Mul, []row{
		{0, 0, 0, api.OK},
		{0, 1, 0, api.OK},
		{0, most, 0, api.OK},
		{most, 0, 0, api.OK},
		{1, 1, 1, api.OK},
		{3, 7, 21, api.OK},
		{1, most, most, api.OK},
		{most, 1, most, api.OK},
		{2, most / 2, most, api.OK},
		{1 << 30, 1 << 30, most, api.OK},
		{1<<30 - 1, 1<<30 + 1, most - 1, api.OK},
		{1 << 29, 1 << 31, most, api.OK},
		{1 << 30, 1<<30 + 1, 0, api.ErrOverflow},
		{1<<30 + 1, 1 << 30, 0, api.ErrOverflow},
		{2, most/2 + 1, 0, api.ErrOverflow},
		{most - 1, 2, 0, api.ErrOverflow},
		{most, 2, 0, api.ErrOverflow},
		{most, most, 0, api.ErrOverflow},
		{-1, -1, 0, api.ErrMoney},
		{-1, 1, 0, api.ErrMoney},
		{1, -1, 0, api.ErrMoney},
		{0, -1, 0, api.ErrMoney},
		{-1, 0, 0, api.ErrMoney},
		{0, most + 1, 0, api.ErrMoney},
		{most + 1, 0, 0, api.ErrMoney},
		{1, most + 1, 0, api.ErrMoney},
		{most + 1, most + 1, 0, api.ErrMoney},
		{-1, math.MinInt64, 0, api.ErrMoney},
		{math.MinInt64, -1, 0, api.ErrMoney},
		{math.MinInt64, 0, 0, api.ErrMoney},
		{0, math.MaxInt64, 0, api.ErrMoney},
		{math.MaxInt64, math.MaxInt64, 0, api.ErrMoney},
	})
}

// Products that would wrap round to an amount, or to a number below 0.
func TestProductsThatWouldWrap(t *testing.T) {
	for _, c := range []struct{ a, b int64 }{
		{1 << 32, 1 << 32}, {1 << 31, 1 << 33}, {1 << 60, 1 << 4}, {1 << 60, 1 << 60}, {1 << 59, 1 << 5},
		{1<<32 + 1, 1 << 32}, {1<<32 + 1, 1<<32 + 1}, {1<<32 + 5, 1<<32 - 5}, {1<<33 + 1, 1<<31 + 1},
		{1 << 60, 8}, {1 << 60, 9}, {1 << 60, 12}, {1 << 60, 15}, {1 << 60, 16}, {1 << 60, 17}, {1 << 60, 31}, {1 << 60, 33},
		{1<<60 - 1, 1<<60 - 1}, {1 << 59, 33}, {1 << 59, 34}, {3037000500, 3037000500}, {4294967297, 4294967295}, {6148914691, 6000000000},
	} {
		for _, r := range []row{{a: c.a, b: c.b}, {a: c.b, b: c.a}} {
			if n, e := money.Mul(r.a, r.b); n != 0 || e != api.ErrOverflow {
				t.Errorf("Mul(%d, %d): %d %v", r.a, r.b, n, e)
			}
		}
	}
}

// The greatest number by which each may be multiplied, and the next one.
func TestProductsAtTheBound(t *testing.T) {
	for _, a := range numbers() {
		if !plainRight(a) || a == 0 {
			continue
		}
		b := most / a
		if n, e := money.Mul(a, b); n != a*b || e != api.OK {
			t.Errorf("Mul(%d, %d): %d %v", a, b, n, e)
		}
		if a == 1 {
			continue // The next one is no amount.
		}
		if n, e := money.Mul(a, b+1); n != 0 || e != api.ErrOverflow {
			t.Errorf("Mul(%d, %d): %d %v", a, b+1, n, e)
		}
	}
}

// All numbers on either side.
func TestAllTwos(t *testing.T) {
	for _, w := range twos() {
		of := make(map[api.Errno]int)
		for _, a := range numbers() {
			for _, b := range numbers() {
				want, told := w.want(a, b)
				if n, e := w.work(a, b); n != want || e != told {
					t.Fatalf("%s(%d, %d): %d %v, want %d %v", w.name, a, b, n, e, want, told)
				}
				of[told]++
			}
		}
		if len(of) != 3 {
			t.Errorf("%s: not all errors: %v", w.name, of)
		}
	}
}

// P11.2: Move, Bytes and Parse.

func TestMoveByHand(t *testing.T) {
	for _, c := range []struct {
		from, to, n int64
		less, more  int64
		e           api.Errno
	}{
		{5, 1, 2, 3, 3, api.OK},
		{7, 3, 7, 0, 10, api.OK},
		{0, 0, 0, 0, 0, api.OK},
		{5, 1, 0, 5, 1, api.OK},
		{most, 0, most, 0, most, api.OK},
		{most, 0, 1, most - 1, 1, api.OK},
		{most, most, 0, most, most, api.OK},
		{1, most - 1, 1, 0, most, api.OK},
		{most, 1, most - 1, 1, most, api.OK},
		{0, most, 0, 0, most, api.OK},
		{1, 2, 2, 0, 0, api.ErrFunds},
		{0, 0, 1, 0, 0, api.ErrFunds},
		{most - 1, 0, most, 0, 0, api.ErrFunds},
		{7, most, 7, 0, 0, api.ErrOverflow},
		{1, most, 1, 0, 0, api.ErrOverflow},
		{2, most - 1, 2, 0, 0, api.ErrOverflow},
		{most, 1, most, 0, 0, api.ErrOverflow},
		{most, most, most, 0, 0, api.ErrOverflow},
		{-1, 0, 0, 0, 0, api.ErrMoney},
		{0, -1, 0, 0, 0, api.ErrMoney},
		{0, 0, -1, 0, 0, api.ErrMoney},
		{5, 5, -1, 0, 0, api.ErrMoney},
		{most + 1, 0, 1, 0, 0, api.ErrMoney},
		{1, most + 1, 1, 0, 0, api.ErrMoney},
		{1, most + 1, 0, 0, 0, api.ErrMoney},
		{most, 0, most + 1, 0, 0, api.ErrMoney},
		{math.MinInt64, math.MaxInt64, 1, 0, 0, api.ErrMoney},
		{math.MaxInt64, math.MinInt64, math.MaxInt64, 0, 0, api.ErrMoney},
		{1, 1, math.MinInt64, 0, 0, api.ErrMoney},
	} {
		if less, more, e := money.Move(c.from, c.to, c.n); less != c.less || more != c.more || e != c.e {
			t.Errorf("Move(%d, %d, %d): %d %d %v", c.from, c.to, c.n, less, more, e)
		}
	}
}

// Where both errors apply, it is the one of what is taken away.
func TestMoveTellsTheFirstError(t *testing.T) {
	for _, c := range []struct {
		from, to, n int64
		e           api.Errno
	}{
		{1, most, 2, api.ErrFunds},
		{0, most, most, api.ErrFunds},
		{most - 1, most, most, api.ErrFunds},
		{1, -1, 2, api.ErrFunds},
		{1, most + 1, 2, api.ErrFunds},
		{1, math.MinInt64, most, api.ErrFunds},
		{1, math.MaxInt64, most, api.ErrFunds},
		{-1, most, 1, api.ErrMoney},
		{most + 1, most, most, api.ErrMoney},
		{math.MinInt64, most, most, api.ErrMoney},
		{math.MaxInt64, most, 1, api.ErrMoney},
		{1, most, most + 1, api.ErrMoney},
		{-1, -1, -1, api.ErrMoney},
	} {
		if less, more, e := money.Move(c.from, c.to, c.n); less != 0 || more != 0 || e != c.e {
			t.Errorf("Move(%d, %d, %d): %d %d %v, want %v", c.from, c.to, c.n, less, more, e, c.e)
		}
	}
}

func TestAllMoves(t *testing.T) {
	of := make(map[api.Errno]int)
	for _, from := range fewer() {
		for _, to := range fewer() {
			for _, n := range fewer() {
				wantLess, wantMore, want := plainMove(from, to, n)
				if less, more, e := money.Move(from, to, n); less != wantLess || more != wantMore || e != want {
					t.Fatalf("Move(%d, %d, %d): %d %d %v, want %d %d %v", from, to, n, less, more, e, wantLess, wantMore, want)
				}
				of[want]++
			}
		}
	}
	if len(of) != 4 {
		t.Errorf("not all errors: %v", of)
	}
}

func TestBytesByHand(t *testing.T) {
	wantAmounts(t, "")
	wantAmounts(t, "\x00\x00\x00\x00\x00\x00\x00\x00", 0)
	wantAmounts(t, "\x00\x00\x00\x00\x00\x00\x00\x01", 1)
	wantAmounts(t, "\x00\x00\x00\x00\x00\x00\x00\xff", 255)
	wantAmounts(t, "\x00\x00\x00\x00\x00\x00\x01\x00", 256)
	wantAmounts(t, "\x01\x02\x03\x04\x05\x06\x07\x08", 0x0102030405060708)
	wantAmounts(t, "\x0f\xff\xff\xff\xff\xff\xff\xff", most-1)
	wantAmounts(t, "\x10\x00\x00\x00\x00\x00\x00\x00", most)
	wantAmounts(t, "\x00\x00\x00\x00\x00\x00\x01\x02\x00\x00\x00\x00\x00\x00\x00\x00", 258, 0)
	wantAmounts(t, "\x10\x00\x00\x00\x00\x00\x00\x00\x00\x00\x00\x00\x00\x00\x00\x07\x00\x00\x00\x00\x00\x00\x00\x07", most, 7, 7)
}

// Nothing has no bytes, however it is told.
func TestBytesOfNothing(t *testing.T) {
	for _, l := range [][]int64{nil, {}, make([]int64, 0, 9)} {
		if s, e := money.Bytes(l...); s != "" || e != api.OK {
			t.Errorf("Bytes(%v): %x %v", l, s, e)
		}
	}
	if l, e := money.Parse(""); len(l) != 0 || e != api.OK {
		t.Errorf("Parse: %v %v", l, e)
	}
}

func TestEachNumberAsBytes(t *testing.T) {
	for _, n := range numbers() {
		if plainRight(n) {
			wantAmounts(t, plainBytes(n), n)
			continue
		}
		wantNoBytes(t, n)
		wantNoAmounts(t, plainBytes(n))
	}
}

// One number that is no amount, among others that are: first, last, between.
func TestOneWrongAmongMany(t *testing.T) {
	for _, size := range []int{2, 3, 5, 20} {
		right := make([]int64, size)
		for i := range right {
			right[i] = most - int64(i*i)
		}
		wantAmounts(t, plainBytes(right...), right...)
		for at := range right {
			for _, n := range []int64{-1, most + 1, math.MinInt64, math.MaxInt64} {
				wrong := slices.Clone(right)
				wrong[at] = n
				wantNoBytes(t, wrong...)
				wantNoAmounts(t, plainBytes(wrong...))
			}
		}
	}
	wantNoBytes(t, -1, -1)
	wantNoAmounts(t, plainBytes(-1, -1))
}

func TestParseRefusesSizes(t *testing.T) {
	for size := range 81 {
		for _, b := range []string{"\x00", "\x01"} {
			s := strings.Repeat(b, size)
			if size%8 != 0 {
				wantNoAmounts(t, s)
				continue
			}
			l := parsed(t, s)
			if len(l) != size/8 || plainBytes(l...) != s {
				t.Fatalf("Parse(%x): %v", s, l)
			}
		}
	}
	wantNoAmounts(t, "a")
	wantNoAmounts(t, plainBytes(5)[1:])
	wantNoAmounts(t, plainBytes(5)[:7])
	wantNoAmounts(t, plainBytes(5)+"\x00")
	wantNoAmounts(t, "\x00"+plainBytes(5))
	wantNoAmounts(t, plainBytes(most)+plainBytes(5)[:7])
	wantNoAmounts(t, plainBytes(5, 6)+"\x05")
}

// Each bit alone, and beside the greatest amount's.
func TestParseOfEachBit(t *testing.T) {
	for bit := range 64 {
		n := uint64(1) << bit
		if n <= most {
			wantAmounts(t, plainBytes(int64(n)), int64(n))
		} else {
			wantNoAmounts(t, plainBytes(int64(n)))
		}
		if n != most {
			wantNoAmounts(t, plainBytes(int64(n|most)))
		}
	}
	wantNoAmounts(t, "\x10\x00\x00\x00\x00\x00\x00\x01")
	wantNoAmounts(t, "\x7f\xff\xff\xff\xff\xff\xff\xff")
	wantNoAmounts(t, "\x80\x00\x00\x00\x00\x00\x00\x00")
	wantNoAmounts(t, "\xff\xff\xff\xff\xff\xff\xff\xff")
}

// Bytes of which one is another one: those of other amounts, or of none.
func TestParseOfChangedBytes(t *testing.T) {
	for _, l := range [][]int64{{0}, {1}, {most}, {most - 1}, {258, 0}, {most, 1234567890123456789 % most, 3}} {
		for at := range len(l) * 8 {
			for b := range 256 {
				s := []byte(plainBytes(l...))
				s[at] = byte(b)
				wantAsTold(t, string(s))
			}
		}
	}
}

// wantAsTold holds Parse against what the chapter tells of bytes.
func wantAsTold(t *testing.T, s string) {
	t.Helper()
	right := len(s)%8 == 0
	var want []int64
	for at := 0; right && at < len(s); at += 8 {
		n := binary.BigEndian.Uint64([]byte(s[at : at+8]))
		right = n <= most
		want = append(want, int64(n))
	}
	if !right {
		wantNoAmounts(t, s)
		return
	}
	wantAmounts(t, s, want...)
}

func TestManyAmounts(t *testing.T) {
	l := make([]int64, 100000)
	for i := range l {
		l[i] = most / 99999 * int64(i)
	}
	wantAmounts(t, plainBytes(l...), l...)
	wantNoBytes(t, append(slices.Clone(l), -1)...)
	wantNoAmounts(t, plainBytes(append(slices.Clone(l), -1)...))
	wantNoAmounts(t, plainBytes(l...)+"\x00")
}

// What is handed in stays what it was, its spare room too.
func TestNothingIsWrittenInto(t *testing.T) {
	for _, n := range []int64{7, -1} {
		room := []int64{1, 2, n, 4, 5}
		was := slices.Clone(room)
		money.Bytes(room[:3]...)
		if !slices.Equal(room, was) {
			t.Errorf("%v, was %v", room, was)
		}
	}
}

// What is answered is new memory, spare room too.
func TestAnswersShareNothing(t *testing.T) {
	s := plainBytes(1, 2, 3)
	one, other := parsed(t, s), parsed(t, s)
	for i := range one {
		one[i] = 99
	}
	for i := range cap(one) {
		one[:cap(one)][i] = 99
	}
	if !slices.Equal(other, []int64{1, 2, 3}) || !slices.Equal(parsed(t, s), []int64{1, 2, 3}) || s != plainBytes(1, 2, 3) {
		t.Error(other, parsed(t, s))
	}
	l := []int64{1, 2}
	text, _ := money.Bytes(l...)
	l[0] = 99
	if text != plainBytes(1, 2) {
		t.Errorf("%x", text)
	}
}

// P11.3: what is moved is neither more nor less, what is added may be taken away, amounts and bytes are one to one.

func TestMovedIsKept(t *testing.T) {
	moved := 0
	for _, from := range fewer() {
		for _, to := range fewer() {
			for _, n := range fewer() {
				less, more, e := money.Move(from, to, n)
				if e != api.OK {
					continue
				}
				moved++
				if !money.Right(less) || !money.Right(more) || less+more != from+to || from-less != n || more-to != n {
					t.Fatalf("Move(%d, %d, %d): %d %d", from, to, n, less, more)
				}
				if back, rest, e := money.Move(more, less, n); back != to || rest != from || e != api.OK {
					t.Fatalf("Move(%d, %d, %d): %d %d %v", more, less, n, back, rest, e)
				}
			}
		}
	}
	if moved < 100 {
		t.Fatal(moved)
	}
}

func TestAddedAndTakenAway(t *testing.T) {
	added, taken := 0, 0
	for _, a := range numbers() {
		for _, b := range numbers() {
			if sum, e := money.Add(a, b); e == api.OK {
				added++
				if n, e := money.Sub(sum, b); n != a || e != api.OK {
					t.Fatalf("Sub(%d, %d): %d %v, want %d", sum, b, n, e, a)
				}
			}
			if rest, e := money.Sub(a, b); e == api.OK {
				taken++
				if n, e := money.Add(rest, b); n != a || e != api.OK {
					t.Fatalf("Add(%d, %d): %d %v, want %d", rest, b, n, e, a)
				}
			}
		}
	}
	if added < 100 || taken < 100 {
		t.Fatal(added, taken)
	}
}

func TestSidesOfSumsAndProducts(t *testing.T) {
	for _, a := range numbers() {
		for _, b := range numbers() {
			for _, w := range twos() {
				if w.name == "Sub" {
					continue
				}
				n, e := w.work(a, b)
				if m, f := w.work(b, a); m != n || f != e {
					t.Fatalf("%s(%d, %d): %d %v, the other way %d %v", w.name, a, b, n, e, m, f)
				}
			}
		}
	}
}

func TestOneToOne(t *testing.T) {
	of := make(map[string]bool)
	lists := 0
	for _, a := range numbers() {
		for _, b := range numbers() {
			if !plainRight(a) || !plainRight(b) {
				continue
			}
			s, e := money.Bytes(a, b)
			if of[s] || e != api.OK || len(s) != 16 {
				t.Fatalf("Bytes(%d, %d): %x %v, %v", a, b, s, e, of[s])
			}
			of[s] = true
			lists++
			if l := parsed(t, s); !slices.Equal(l, []int64{a, b}) {
				t.Fatalf("Parse(%x): %v, want %d %d", s, l, a, b)
			}
		}
	}
	if lists < 100 {
		t.Fatal(lists)
	}
}

// Bytes of many are those of each, one behind the other.
func TestOneBehindTheOther(t *testing.T) {
	var l []int64
	all := ""
	for _, n := range numbers() {
		if !plainRight(n) {
			continue
		}
		s, _ := money.Bytes(n)
		all += s
		l = append(l, n)
		wantAmounts(t, all, l...)
	}
}

// Calls keep nothing: what they answer does not hang on those ahead of them.
func TestNothingIsKept(t *testing.T) {
	for range 3 {
		wantRows(t, "Add", money.Add, []row{{2, 3, 5, api.OK}, {most, 1, 0, api.ErrOverflow}, {-1, 1, 0, api.ErrMoney}})
		wantRows(t, "Sub", money.Sub, []row{{3, 2, 1, api.OK}, {1, 2, 0, api.ErrFunds}, {1, -1, 0, api.ErrMoney}})
		wantRows(t, "Mul", money.Mul, []row{{2, 3, 6, api.OK}, {most, 2, 0, api.ErrOverflow}, {-1, 1, 0, api.ErrMoney}})
		wantAmounts(t, plainBytes(2, 3), 2, 3)
		wantNoAmounts(t, plainBytes(2, -3))
		wantNoBytes(t, 2, -3)
	}
}

// FuzzTwos holds works of two and three numbers against plain ones.
func FuzzTwos(f *testing.F) {
	for _, n := range edges() {
		f.Add(n, int64(1), n)
		f.Add(int64(most), n, int64(1))
	}
	f.Fuzz(func(t *testing.T, a, b, n int64) {
		for _, w := range twos() {
			want, told := w.want(a, b)
			if n, e := w.work(a, b); n != want || e != told {
				t.Fatalf("%s(%d, %d): %d %v, want %d %v", w.name, a, b, n, e, want, told)
			}
		}
		wantLess, wantMore, want := plainMove(a, b, n)
		if less, more, e := money.Move(a, b, n); less != wantLess || more != wantMore || e != want {
			t.Fatalf("Move(%d, %d, %d): %d %d %v, want %d %d %v", a, b, n, less, more, e, wantLess, wantMore, want)
		}
	})
}

// FuzzParse holds bytes against what the chapter tells of them.
func FuzzParse(f *testing.F) {
	for _, n := range edges() {
		f.Add(plainBytes(n))
		f.Add(plainBytes(1, n, 0))
	}
	f.Add("a")
	f.Fuzz(wantAsTold)
}
