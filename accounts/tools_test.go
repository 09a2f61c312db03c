package accounts_test

import (
	"encoding/binary"
	"math"
	"math/big"
	"slices"
	"testing"

	"bazaar/accounts"
	"bazaar/api"
)

// most is the greatest amount.
const most = 1152921504606846976

// of is an account of these coins.
func of(wallet, bank int64) api.Account { return api.Account{Wallet: wallet, Bank: bank} }

// none is the account that stands beside an error.
func none() api.Account { return api.Account{} }

// edges is the numbers at the ends of what is an amount, and of what is a number.
func edges() []int64 {
	return []int64{math.MinInt64, -1, 0, 1, most - 1, most, most + 1, math.MaxInt64}
}

// numbers is the edges and numbers between them, powers of two and what lies beside them.
func numbers() []int64 {
	all := append(edges(), 2, 3, 5, 7, 100, 255, 256, 258, 1<<32-1, 1<<32, 1<<59-1, 1<<59, 1<<59+1, 1<<61, 1<<62, 3<<61)
	all = append(all, -2, -most, -most-1, most-2, most+2, math.MinInt64+1, math.MinInt64+most, math.MaxInt64-1, math.MaxInt64-most)
	slices.Sort(all)
	return slices.Compact(all)
}

// allAccounts is all accounts of two of the numbers, right or not.
func allAccounts() []api.Account {
	var l []api.Account
	for _, wallet := range numbers() {
		for _, bank := range numbers() {
			l = append(l, of(wallet, bank))
		}
	}
	return l
}

// rightAccounts is those of them that are right.
func rightAccounts() []api.Account {
	return slices.DeleteFunc(allAccounts(), func(a api.Account) bool { return !plainRight(a) })
}

// someAccounts is some that are right, and some that are not, for twos of them.
func someAccounts() []api.Account {
	l := []api.Account{
		of(0, 0), of(0, 1), of(1, 0), of(1, 1), of(5, 2), of(0, 9), of(7, 0),
		of(most, 0), of(0, most), of(most-1, 0), of(most-1, 1), of(0, most-1), of(1, most-1), of(1, most-2), of(most-5, 4), of(4, most-5),
		of(most/2, most/2), of(most/2-1, most/2), of(most/2, 0), of(0, most/2),
	}
	wrong := []api.Account{
		of(-1, 0), of(0, -1), of(-1, -1), of(-1, 1), of(1, -1), of(-1, most), of(most, -1), of(most+1, -1), of(-1, most+1),
		of(most, 1), of(1, most), of(most-1, 2), of(2, most-1), of(most/2, most/2+1), of(most/2+1, most/2), of(most, most),
		of(most+1, 0), of(0, most+1), of(math.MaxInt64, 0), of(0, math.MaxInt64), of(math.MinInt64, 0), of(0, math.MinInt64),
		of(math.MinInt64, math.MinInt64), of(math.MaxInt64, math.MaxInt64), of(math.MaxInt64, math.MinInt64), of(math.MinInt64, math.MaxInt64), of(1<<62, 3<<61), of(math.MaxInt64, 1),
	}
	return append(l, wrong...)
}

// plainAmount tells whether a number is an amount, by the chapter's words.
func plainAmount(n int64) bool {
	return n >= 0 && n <= 1152921504606846976
}

// plainSum is the sum of numbers, which doesn't wrap.
func plainSum(l ...int64) *big.Int {
	sum := new(big.Int)
	for _, n := range l {
		sum.Add(sum, big.NewInt(n))
	}
	return sum
}

// plainFits tells whether a number of any size is an amount.
func plainFits(n *big.Int) bool {
	return n.Sign() >= 0 && n.Cmp(big.NewInt(most)) <= 0
}

// plainRight tells whether an account is right, by the chapter's words.
func plainRight(a api.Account) bool {
	return plainAmount(a.Wallet) && plainAmount(a.Bank) && plainFits(plainSum(a.Wallet, a.Bank))
}

// The works of one account by plain words, errors in the order of the promises. Each Add is worked out without wrapping.

func plainDeposit(a api.Account, n int64) (api.Account, api.Errno) {
	switch {
	case !plainRight(a):
		return none(), api.ErrAccount
	case !plainAmount(n):
		return none(), api.ErrMoney
	case n > a.Wallet:
		return none(), api.ErrFunds
	}
	return of(a.Wallet-n, a.Bank+n), api.OK
}

func plainWithdraw(a api.Account, n int64) (api.Account, api.Errno) {
	then, e := plainDeposit(of(a.Bank, a.Wallet), n)
	return of(then.Bank, then.Wallet), e
}

func plainEarn(a api.Account, n int64) (api.Account, api.Errno) {
	switch {
	case !plainRight(a):
		return none(), api.ErrAccount
	case !plainAmount(n):
		return none(), api.ErrMoney
	case !plainFits(plainSum(a.Wallet, n)), !plainFits(plainSum(a.Wallet, n, a.Bank)):
		return none(), api.ErrOverflow
	}
	return of(a.Wallet+n, a.Bank), api.OK
}

func plainSpend(a api.Account, n int64) (api.Account, api.Errno) {
	then, e := plainDeposit(a, n)
	if e != api.OK {
		return none(), e
	}
	return of(then.Wallet, a.Bank), api.OK
}

func plainPay(a, b api.Account, n int64) (api.Account, api.Account, api.Errno) {
	if !plainRight(a) || !plainRight(b) {
		return none(), none(), api.ErrAccount
	}
	payer, e := plainSpend(a, n)
	if e != api.OK {
		return none(), none(), e
	}
	payee, e := plainEarn(b, n)
	if e != api.OK {
		return none(), none(), e
	}
	return payer, payee, api.OK
}

// plainBytes is numbers' bytes by the library's means, be they amounts or not.
func plainBytes(l ...int64) string {
	var s []byte
	for _, n := range l {
		s = binary.BigEndian.AppendUint64(s, uint64(n))
	}
	return string(s)
}

// plainParse is the account of bytes by the library's means.
func plainParse(s string) (api.Account, api.Errno) {
	if len(s) != 16 {
		return none(), api.ErrAccount
	}
	first, second := binary.BigEndian.Uint64([]byte(s[:8])), binary.BigEndian.Uint64([]byte(s[8:]))
	if first > most || second > most || first+second > most {
		return none(), api.ErrAccount
	}
	return of(int64(first), int64(second)), api.OK
}

// one is a work of an account and a number, and what is asked of it.
type one struct {
	name string
	work func(a api.Account, n int64) (api.Account, api.Errno)
	want func(a api.Account, n int64) (api.Account, api.Errno)
}

func deposit() one { return one{"Deposit", accounts.Deposit, plainDeposit} }

func withdraw() one { return one{"Withdraw", accounts.Withdraw, plainWithdraw} }

func earn() one { return one{"Earn", accounts.Earn, plainEarn} }

func spend() one { return one{"Spend", accounts.Spend, plainSpend} }

func ones() []one { return []one{deposit(), withdraw(), earn(), spend()} }

// row is an account and a number, and what a work of them must tell.
type row struct {
	a    api.Account
	n    int64
	then api.Account
	e    api.Errno
}

// wantDone checks what a work answers.
func (w one) wantDone(t *testing.T, a api.Account, n int64, want api.Account, e api.Errno) {
	t.Helper()
	if then, f := w.work(a, n); then != want || f != e {
		t.Errorf("%s(%v, %d): %v %v, want %v %v", w.name, a, n, then, f, want, e)
	}
}

// wantRows checks a work by hand.
func (w one) wantRows(t *testing.T, rows []row) {
	t.Helper()
	for _, r := range rows {
		w.wantDone(t, r.a, r.n, r.then, r.e)
	}
}

// wantAsTold checks that a work answers what the plain one does, and tells which error that is.
func (w one) wantAsTold(t *testing.T, a api.Account, n int64) api.Errno {
	t.Helper()
	want, e := w.want(a, n)
	w.wantDone(t, a, n, want, e)
	return e
}

// wantPaid checks what Pay answers.
func wantPaid(t *testing.T, a, b api.Account, n int64, payer, payee api.Account, e api.Errno) {
	t.Helper()
	if x, y, f := accounts.Pay(a, b, n); x != payer || y != payee || f != e {
		t.Errorf("Pay(%v, %v, %d): %v %v %v, want %v %v %v", a, b, n, x, y, f, payer, payee, e)
	}
}

// wantPaidAsTold checks that Pay answers what the plain one does, and tells which error that is.
func wantPaidAsTold(t *testing.T, a, b api.Account, n int64) api.Errno {
	t.Helper()
	payer, payee, e := plainPay(a, b, n)
	wantPaid(t, a, b, n, payer, payee, e)
	return e
}

// wantBytes checks that an account and bytes are each other's.
func wantBytes(t *testing.T, a api.Account, s string) {
	t.Helper()
	if got, e := accounts.Bytes(a); got != s || e != api.OK {
		t.Errorf("Bytes(%v): %x %v, want %x", a, got, e, s)
	}
	if got, e := accounts.Parse(s); got != a || e != api.OK {
		t.Errorf("Parse(%x): %v %v, want %v", s, got, e, a)
	}
}

// wantNoBytes checks that an account has none.
func wantNoBytes(t *testing.T, a api.Account) {
	t.Helper()
	if s, e := accounts.Bytes(a); s != "" || e != api.ErrAccount {
		t.Errorf("Bytes(%v): %x %v", a, s, e)
	}
}

// wantNoAccount checks that bytes are no account's.
func wantNoAccount(t *testing.T, s string) {
	t.Helper()
	if a, e := accounts.Parse(s); a != none() || e != api.ErrAccount {
		t.Errorf("Parse(%x): %v %v", s, a, e)
	}
}

// wantParsedAsTold holds Parse against what the chapter tells of bytes; an account's bytes are its own.
func wantParsedAsTold(t *testing.T, s string) api.Errno {
	t.Helper()
	a, e := plainParse(s)
	if e != api.OK {
		wantNoAccount(t, s)
		return e
	}
	wantBytes(t, a, s)
	return e
}
