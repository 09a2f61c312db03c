package accounts_test

import (
	"math"
	"strings"
	"testing"

	"bazaar/accounts"
	"bazaar/api"
)

// P13.1: Right.

func TestRightByHand(t *testing.T) {
	for _, a := range []api.Account{
		of(0, 0), of(1, 0), of(0, 1), of(1, 1), of(5, 2), of(10, 258),
		of(most, 0), of(0, most), of(most-1, 0), of(0, most-1), of(most-1, 1), of(1, most-1),
		of(most/2, most/2), of(most/2-1, most/2+1), of(most-1000, 1000), of(999, most-1000),
	} {
		if !accounts.Right(a) {
			t.Errorf("not right: %v", a)
		}
	}
	for _, a := range []api.Account{
		// One is no amount, the other one is.
		of(-1, 0), of(0, -1), of(-1, 1), of(1, -1), of(-1, 2), of(5, -2), of(most+1, 0), of(0, most+1),
		of(math.MinInt64, 0), of(0, math.MinInt64), of(math.MaxInt64, 0), of(0, math.MaxInt64),
		// Neither is, or their sum is an amount all the same.
		of(-1, -1), of(most+1, most+1), of(most+1, -1), of(-1, most+1), of(most, -1), of(-1, most), of(most+5, -5),
		// Both are, their sum is none.
		of(most, 1), of(1, most), of(most-1, 2), of(2, most-1), of(most/2, most/2+1), of(most/2+1, most/2), of(most, most), of(most-1, most-1), of(most, most-1),
		// Their sum wraps, be it to an amount or not.
		of(math.MinInt64, math.MinInt64), of(math.MaxInt64, math.MaxInt64), of(math.MaxInt64, 1), of(1, math.MaxInt64), of(math.MaxInt64, most), of(most, math.MaxInt64),
		of(1<<62, 1<<62), of(1<<62, 3<<61), of(math.MinInt64, -1), of(-1, math.MinInt64), of(math.MinInt64, math.MinInt64+5), of(math.MinInt64+most, math.MinInt64),
		of(math.MinInt64, math.MaxInt64), of(math.MaxInt64, math.MinInt64), of(math.MaxInt64, math.MinInt64+2),
	} {
		if accounts.Right(a) {
			t.Errorf("right: %v", a)
		}
	}
}

func TestRightOfAllAccounts(t *testing.T) {
	right := 0
	for _, a := range allAccounts() {
		if accounts.Right(a) != plainRight(a) {
			t.Errorf("Right(%v): %v", a, accounts.Right(a))
		}
		if accounts.Right(a) {
			right++
		}
	}
	if right < 100 || right > len(allAccounts())-100 {
		t.Errorf("%d of %d are right", right, len(allAccounts()))
	}
}

// Each number alone beside none, and both the same.
func TestRightOfEachNumber(t *testing.T) {
	for _, n := range numbers() {
		if accounts.Right(of(n, 0)) != plainAmount(n) || accounts.Right(of(0, n)) != plainAmount(n) {
			t.Errorf("%d: %v, %v", n, accounts.Right(of(n, 0)), accounts.Right(of(0, n)))
		}
		if accounts.Right(of(n, n)) != (n >= 0 && n <= most/2) {
			t.Errorf("%d twice: %v", n, accounts.Right(of(n, n)))
		}
	}
}

// Of each amount the account whose sum is just an amount is right, that of one more is not.
func TestRightUpToTheSum(t *testing.T) {
	for _, n := range numbers() {
		if !plainAmount(n) {
			continue
		}
		if !accounts.Right(of(n, most-n)) || !accounts.Right(of(most-n, n)) {
			t.Errorf("not right: %d and %d", n, most-n)
		}
		if accounts.Right(of(n, most-n+1)) || accounts.Right(of(most-n+1, n)) {
			t.Errorf("right: %d and %d", n, most-n+1)
		}
	}
}

// P13.1: Bytes and Parse.

func TestBytesByHand(t *testing.T) {
	wantBytes(t, of(0, 0), "\x00\x00\x00\x00\x00\x00\x00\x00\x00\x00\x00\x00\x00\x00\x00\x00")
	wantBytes(t, of(1, 0), "\x00\x00\x00\x00\x00\x00\x00\x01\x00\x00\x00\x00\x00\x00\x00\x00")
	wantBytes(t, of(0, 1), "\x00\x00\x00\x00\x00\x00\x00\x00\x00\x00\x00\x00\x00\x00\x00\x01")
	wantBytes(t, of(5, 2), "\x00\x00\x00\x00\x00\x00\x00\x05\x00\x00\x00\x00\x00\x00\x00\x02")
	wantBytes(t, of(10, 258), "\x00\x00\x00\x00\x00\x00\x00\x0a\x00\x00\x00\x00\x00\x00\x01\x02")
	wantBytes(t, of(most, 0), "\x10\x00\x00\x00\x00\x00\x00\x00\x00\x00\x00\x00\x00\x00\x00\x00")
	wantBytes(t, of(0, most), "\x00\x00\x00\x00\x00\x00\x00\x00\x10\x00\x00\x00\x00\x00\x00\x00")
	wantBytes(t, of(most-1, 1), "\x0f\xff\xff\xff\xff\xff\xff\xff\x00\x00\x00\x00\x00\x00\x00\x01")
	wantBytes(t, of(most/2, most/2), "\x08\x00\x00\x00\x00\x00\x00\x00\x08\x00\x00\x00\x00\x00\x00\x00")
	wantBytes(t, of(0x0102030405060708, 0x0008070605040302), "\x01\x02\x03\x04\x05\x06\x07\x08\x00\x08\x07\x06\x05\x04\x03\x02")
}

func TestBytesOfAllAccounts(t *testing.T) {
	for _, a := range allAccounts() {
		s := plainBytes(a.Wallet, a.Bank)
		if plainRight(a) {
			wantBytes(t, a, s)
			continue
		}
		wantNoBytes(t, a)
		wantNoAccount(t, s)
	}
}

func TestParseRefusesSizes(t *testing.T) {
	s := plainBytes(10, 258)
	wantNoAccount(t, "")
	wantNoAccount(t, "a")
	wantNoAccount(t, s[:8])
	wantNoAccount(t, s[8:])
	wantNoAccount(t, s[:15])
	wantNoAccount(t, s[1:])
	wantNoAccount(t, s+"\x00")
	wantNoAccount(t, "\x00"+s)
	wantNoAccount(t, plainBytes(10, 258, 0))
	wantNoAccount(t, plainBytes(0, 10, 258))
	wantNoAccount(t, plainBytes(0, 0, 0))
	wantNoAccount(t, s+s)
	wantNoAccount(t, strings.Repeat(s, 5000))
	for size := range 100 {
		for _, b := range []string{"\x00", "\x01"} {
			if e := wantParsedAsTold(t, strings.Repeat(b, size)); (e == api.OK) != (size == 16) {
				t.Errorf("%d bytes of %x: %v", size, b, e)
			}
		}
	}
}

// Amounts whose sum is none, and eights that are no amount's, first and second.
func TestParseRefusesAmounts(t *testing.T) {
	for _, a := range []api.Account{
		of(most, 1), of(1, most), of(most-1, 2), of(2, most-1), of(most, most), of(most/2+1, most/2), of(most/2, most/2+1),
		of(most+1, 0), of(0, most+1), of(most+1, 1), of(1, most+1), of(most+1, most+1),
		of(-1, 0), of(0, -1), of(-1, 1), of(1, -1), of(-1, -1), of(most+1, -1), of(-1, most+1),
		of(math.MaxInt64, 0), of(0, math.MaxInt64), of(math.MinInt64, 0), of(0, math.MinInt64), of(math.MinInt64, math.MinInt64), of(math.MaxInt64, math.MaxInt64), of(math.MinInt64, math.MaxInt64),
	} {
		wantNoAccount(t, plainBytes(a.Wallet, a.Bank))
		wantNoBytes(t, a)
	}
}

// Bytes of which one is another one: those of another account, or of none.
func TestParseOfChangedBytes(t *testing.T) {
	told := make(map[api.Errno]int)
	for _, a := range []api.Account{of(0, 0), of(5, 2), of(most, 0), of(0, most), of(most-1, 1), of(most/2, most/2), of(0x0102030405060708, 258)} {
		for at := range 16 {
			for b := range 256 {
				s := []byte(plainBytes(a.Wallet, a.Bank))
				s[at] = byte(b)
				told[wantParsedAsTold(t, string(s))]++
			}
		}
	}
	if told[api.OK] < 1000 || told[api.ErrAccount] < 1000 {
		t.Error(told)
	}
}

func TestParseOfShortenedBytes(t *testing.T) {
	s := plainBytes(1, 2, 3, 4)
	for from := range len(s) {
		for to := from; to <= len(s); to++ {
			wantParsedAsTold(t, s[from:to])
		}
	}
}

// P13.2: Deposit, Withdraw, Earn and Spend.

func TestDepositByHand(t *testing.T) {
	deposit().wantRows(t, []row{
		{of(5, 2), 4, of(1, 6), api.OK},
		{of(5, 2), 0, of(5, 2), api.OK},
		{of(5, 2), 1, of(4, 3), api.OK},
		{of(5, 2), 5, of(0, 7), api.OK},
		{of(0, 0), 0, of(0, 0), api.OK},
		{of(0, most), 0, of(0, most), api.OK},
		{of(most, 0), most, of(0, most), api.OK},
		{of(most, 0), most - 1, of(1, most-1), api.OK},
		{of(1, most-1), 1, of(0, most), api.OK},
		{of(most/2, most/2), most / 2, of(0, most), api.OK},
		{of(5, 2), 6, none(), api.ErrFunds},
		{of(0, 2), 1, none(), api.ErrFunds},
		{of(0, most), 1, none(), api.ErrFunds},
		{of(0, 0), most, none(), api.ErrFunds},
		{of(1, most-1), 2, none(), api.ErrFunds},
		{of(most-1, 0), most, none(), api.ErrFunds},
		{of(5, 2), -1, none(), api.ErrMoney},
		{of(5, 2), most + 1, none(), api.ErrMoney},
		{of(5, 2), math.MinInt64, none(), api.ErrMoney},
		{of(5, 2), math.MaxInt64, none(), api.ErrMoney},
		{of(most, 0), most + 1, none(), api.ErrMoney},
		{of(0, most), -1, none(), api.ErrMoney},
	})
}

func TestWithdrawByHand(t *testing.T) {
	withdraw().wantRows(t, []row{
		{of(5, 2), 1, of(6, 1), api.OK},
		{of(5, 2), 2, of(7, 0), api.OK},
		{of(5, 2), 0, of(5, 2), api.OK},
		{of(10, 258), 258, of(268, 0), api.OK},
		{of(0, 0), 0, of(0, 0), api.OK},
		{of(0, most), most, of(most, 0), api.OK},
		{of(0, most), most - 1, of(most-1, 1), api.OK},
		{of(most-1, 1), 1, of(most, 0), api.OK},
		{of(5, 2), 3, none(), api.ErrFunds},
		{of(5, 0), 1, none(), api.ErrFunds},
		{of(most, 0), 1, none(), api.ErrFunds},
		{of(0, 0), most, none(), api.ErrFunds},
		{of(0, most-1), most, none(), api.ErrFunds},
		{of(5, 2), -1, none(), api.ErrMoney},
		{of(5, 2), most + 1, none(), api.ErrMoney},
		{of(5, 2), math.MinInt64, none(), api.ErrMoney},
		{of(5, 2), math.MaxInt64, none(), api.ErrMoney},
		{of(0, most), most + 1, none(), api.ErrMoney},
		{of(most, 0), -1, none(), api.ErrMoney},
	})
}

func TestEarnByHand(t *testing.T) {
	earn().wantRows(t, []row{
		{of(5, 2), 1, of(6, 2), api.OK},
		{of(5, 2), 0, of(5, 2), api.OK},
		{of(0, 0), 0, of(0, 0), api.OK},
		{of(0, 0), most, of(most, 0), api.OK},
		{of(most-1, 0), 1, of(most, 0), api.OK},
		{of(most, 0), 0, of(most, 0), api.OK},
		{of(0, most), 0, of(0, most), api.OK},
		{of(0, most-1), 1, of(1, most-1), api.OK},
		{of(5, 2), most - 7, of(most-2, 2), api.OK},
		{of(most/2, most/4), most / 4, of(most/2+most/4, most/4), api.OK},
		// The wallet alone were no amount.
		{of(most, 0), 1, none(), api.ErrOverflow},
		{of(1, 0), most, none(), api.ErrOverflow},
		{of(most, 0), most, none(), api.ErrOverflow},
		{of(most-1, 1), 2, none(), api.ErrOverflow},
		// Wallet and bank together alone.
		{of(0, most), 1, none(), api.ErrOverflow},
		{of(0, most), most, none(), api.ErrOverflow},
		{of(0, 1), most, none(), api.ErrOverflow},
		{of(most-1, 1), 1, none(), api.ErrOverflow},
		{of(5, 2), most - 6, none(), api.ErrOverflow},
		{of(10, 258), most - 267, none(), api.ErrOverflow},
		{of(most/2, most/2), 1, none(), api.ErrOverflow},
		{of(5, 2), -1, none(), api.ErrMoney},
		{of(5, 2), -5, none(), api.ErrMoney},
		{of(5, 2), most + 1, none(), api.ErrMoney},
		{of(5, 2), math.MinInt64, none(), api.ErrMoney},
		{of(5, 2), math.MaxInt64, none(), api.ErrMoney},
		// More is no amount, and would be too much.
		{of(most, 0), most + 1, none(), api.ErrMoney},
		{of(0, most), most + 1, none(), api.ErrMoney},
		{of(0, most), -1, none(), api.ErrMoney},
	})
}

func TestSpendByHand(t *testing.T) {
	spend().wantRows(t, []row{
		{of(5, 2), 1, of(4, 2), api.OK},
		{of(5, 2), 5, of(0, 2), api.OK},
		{of(5, 2), 0, of(5, 2), api.OK},
		{of(0, 0), 0, of(0, 0), api.OK},
		{of(0, most), 0, of(0, most), api.OK},
		{of(most, 0), most, of(0, 0), api.OK},
		{of(most, 0), 1, of(most-1, 0), api.OK},
		{of(1, most-1), 1, of(0, most-1), api.OK},
		{of(5, 2), 6, none(), api.ErrFunds},
		{of(5, 2), 7, none(), api.ErrFunds},
		{of(0, 2), 1, none(), api.ErrFunds},
		{of(0, most), 1, none(), api.ErrFunds},
		{of(most-1, 1), most, none(), api.ErrFunds},
		{of(0, 0), most, none(), api.ErrFunds},
		{of(5, 2), -1, none(), api.ErrMoney},
		{of(5, 2), most + 1, none(), api.ErrMoney},
		{of(5, 2), math.MinInt64, none(), api.ErrMoney},
		{of(5, 2), math.MaxInt64, none(), api.ErrMoney},
		{of(most, 0), most + 1, none(), api.ErrMoney},
	})
}

// Of an account that is not right that is told ahead of all else.
func TestWorksOfWrongAccounts(t *testing.T) {
	for _, a := range allAccounts() {
		if plainRight(a) {
			continue
		}
		for _, n := range append(edges(), a.Wallet, a.Bank) {
			for _, w := range ones() {
				w.wantDone(t, a, n, none(), api.ErrAccount)
			}
		}
	}
}

func TestWorksOfAllAccounts(t *testing.T) {
	told := make(map[string]map[api.Errno]int)
	for _, w := range ones() {
		told[w.name] = make(map[api.Errno]int)
		for _, a := range allAccounts() {
			for _, n := range append(numbers(), a.Wallet, a.Bank, a.Wallet+1, a.Bank+1, a.Wallet-1, a.Bank-1, most-a.Wallet-a.Bank, most-a.Wallet-a.Bank+1) {
				told[w.name][w.wantAsTold(t, a, n)]++
			}
		}
	}
	for _, name := range []string{"Deposit", "Withdraw", "Spend"} {
		if m := told[name]; len(m) != 4 || m[api.OK] < 100 || m[api.ErrFunds] < 100 || m[api.ErrMoney] < 100 || m[api.ErrAccount] < 100 {
			t.Error(name, m)
		}
	}
	if m := told["Earn"]; len(m) != 4 || m[api.OK] < 100 || m[api.ErrOverflow] < 100 || m[api.ErrMoney] < 100 || m[api.ErrAccount] < 100 {
		t.Error("Earn", m)
	}
}

// All small accounts and numbers.
func TestWorksOfSmallAccounts(t *testing.T) {
	for wallet := int64(-2); wallet < 12; wallet++ {
		for bank := int64(-2); bank < 12; bank++ {
			for n := int64(-2); n < 14; n++ {
				for _, w := range ones() {
					w.wantAsTold(t, of(wallet, bank), n)
					w.wantAsTold(t, of(most-wallet, bank), n)
					w.wantAsTold(t, of(wallet, most-bank), n)
				}
			}
		}
	}
}

// P13.2: Pay.

func TestPayByHand(t *testing.T) {
	for _, c := range []struct {
		a, b         api.Account
		n            int64
		payer, payee api.Account
		e            api.Errno
	}{
		{of(5, 2), of(1, 3), 2, of(3, 2), of(3, 3), api.OK},
		{of(5, 2), of(1, 3), 0, of(5, 2), of(1, 3), api.OK},
		{of(5, 2), of(1, 3), 5, of(0, 2), of(6, 3), api.OK},
		{of(10, 258), of(0, 1), 4, of(6, 258), of(4, 1), api.OK},
		{of(0, 0), of(0, 0), 0, none(), none(), api.OK},
		{of(most, 0), of(0, 0), most, none(), of(most, 0), api.OK},
		{of(most, 0), of(0, most), 0, of(most, 0), of(0, most), api.OK},
		{of(1, most-1), of(most-1, 0), 1, of(0, most-1), of(most, 0), api.OK},
		{of(1, 0), of(0, most-1), 1, none(), of(1, most-1), api.OK},
		// Spend's error of the first one, also where Earn's of the second one applies.
		{of(5, 2), of(1, 3), 6, none(), none(), api.ErrFunds},
		{of(0, 2), of(1, 3), 1, none(), none(), api.ErrFunds},
		{of(5, 2), of(most, 0), 6, none(), none(), api.ErrFunds},
		{of(0, 0), of(0, most), 1, none(), none(), api.ErrFunds},
		{of(most-1, 1), of(most, 0), most, none(), none(), api.ErrFunds},
		{of(5, 2), of(1, 3), -1, none(), none(), api.ErrMoney},
		{of(5, 2), of(1, 3), most + 1, none(), none(), api.ErrMoney},
		{of(5, 2), of(1, 3), math.MinInt64, none(), none(), api.ErrMoney},
		{of(5, 2), of(1, 3), math.MaxInt64, none(), none(), api.ErrMoney},
		{of(0, 0), of(most, 0), most + 1, none(), none(), api.ErrMoney},
		// Earn's error of the second one.
		{of(5, 2), of(most, 0), 1, none(), none(), api.ErrOverflow},
		{of(5, 2), of(0, most), 1, none(), none(), api.ErrOverflow},
		{of(5, 2), of(most-4, 0), 5, none(), none(), api.ErrOverflow},
		{of(5, 2), of(0, most-4), 5, none(), none(), api.ErrOverflow},
		{of(most, 0), of(most, 0), most, none(), none(), api.ErrOverflow},
		{of(most, 0), of(0, 1), most, none(), none(), api.ErrOverflow},
		// One of them is not right, or both.
		{of(-1, 0), of(1, 3), 1, none(), none(), api.ErrAccount},
		{of(5, 2), of(-1, 0), 1, none(), none(), api.ErrAccount},
		{of(5, 2), of(0, -1), 0, none(), none(), api.ErrAccount},
		{of(most, 1), of(1, 3), 1, none(), none(), api.ErrAccount},
		{of(5, 2), of(1, most), 0, none(), none(), api.ErrAccount},
		{of(-1, 0), of(0, -1), 1, none(), none(), api.ErrAccount},
		{of(5, 2), of(-1, 0), 6, none(), none(), api.ErrAccount},
		{of(5, 2), of(-1, 0), -1, none(), none(), api.ErrAccount},
		{of(-1, 0), of(most, 0), most + 1, none(), none(), api.ErrAccount},
		{of(math.MinInt64, math.MinInt64), of(0, 0), 0, none(), none(), api.ErrAccount},
		{of(0, 0), of(math.MinInt64, math.MinInt64), 0, none(), none(), api.ErrAccount},
	} {
		wantPaid(t, c.a, c.b, c.n, c.payer, c.payee, c.e)
	}
}

// Of the same account twice each is changed as it was handed in.
func TestPayOfTheSameTwice(t *testing.T) {
	wantPaid(t, of(5, 2), of(5, 2), 2, of(3, 2), of(7, 2), api.OK)
	wantPaid(t, of(5, 2), of(5, 2), 5, of(0, 2), of(10, 2), api.OK)
	wantPaid(t, of(5, 2), of(5, 2), 6, none(), none(), api.ErrFunds)
	wantPaid(t, of(most, 0), of(most, 0), 0, of(most, 0), of(most, 0), api.OK)
	wantPaid(t, of(most, 0), of(most, 0), 1, none(), none(), api.ErrOverflow)
	wantPaid(t, of(most, 1), of(most, 1), 1, none(), none(), api.ErrAccount)
	for _, a := range allAccounts() {
		for _, n := range append(edges(), a.Wallet, a.Wallet+1) {
			wantPaidAsTold(t, a, a, n)
		}
	}
}

func TestAllPays(t *testing.T) {
	told := make(map[api.Errno]int)
	for _, a := range someAccounts() {
		for _, b := range someAccounts() {
			for _, n := range append(edges(), 2, 5, 6, most/2, a.Wallet, a.Wallet+1, most-b.Wallet-b.Bank, most-b.Wallet-b.Bank+1) {
				told[wantPaidAsTold(t, a, b, n)]++
			}
		}
	}
	if len(told) != 5 {
		t.Error(told)
	}
	for e, times := range told {
		if times < 100 {
			t.Errorf("%v is told %d times", e, times)
		}
	}
}

// Pay is what Spend tells of the first one and Earn of the second one, if both are right.
func TestPayIsSpendAndEarn(t *testing.T) {
	for _, a := range rightAccounts() {
		for _, b := range someAccounts() {
			if !plainRight(b) {
				continue
			}
			for _, n := range []int64{-1, 0, 1, 2, a.Wallet, most, most + 1} {
				payer, e := accounts.Spend(a, n)
				payee, f := accounts.Earn(b, n)
				switch {
				case e != api.OK:
					wantPaid(t, a, b, n, none(), none(), e)
				case f != api.OK:
					wantPaid(t, a, b, n, none(), none(), f)
				default:
					wantPaid(t, a, b, n, payer, payee, api.OK)
				}
			}
		}
	}
}

// P13.3.

// coins is how many coins an account has, which must be right.
func coins(t *testing.T, a api.Account) int64 {
	t.Helper()
	if !accounts.Right(a) || !plainRight(a) {
		t.Fatalf("not right: %v", a)
	}
	return a.Wallet + a.Bank
}

// What is right stays right; what is moved within is kept, what is earned or spent is more or less by just that.
func TestWorksKeepCoins(t *testing.T) {
	more := map[string]func(n int64) int64{
		"Deposit":  func(n int64) int64 { return 0 },
		"Withdraw": func(n int64) int64 { return 0 },
		"Earn":     func(n int64) int64 { return n },
		"Spend":    func(n int64) int64 { return -n },
	}
	done := make(map[string]int)
	for _, a := range rightAccounts() {
		for _, n := range append(numbers(), a.Wallet, a.Bank, most-a.Wallet-a.Bank) {
			for _, w := range ones() {
				then, e := w.work(a, n)
				if e != api.OK {
					continue
				}
				done[w.name]++
				if coins(t, then) != coins(t, a)+more[w.name](n) {
					t.Fatalf("%s(%v, %d): %v", w.name, a, n, then)
				}
			}
		}
	}
	for name := range more {
		if done[name] < 100 {
			t.Errorf("%s is done %d times", name, done[name])
		}
	}
}

func TestPayKeepsCoins(t *testing.T) {
	paid := 0
	for _, a := range rightAccounts() {
		for _, b := range rightAccounts() {
			for _, n := range []int64{0, 1, 2, 7, a.Wallet / 2, a.Wallet, most - b.Wallet - b.Bank} {
				payer, payee, e := accounts.Pay(a, b, n)
				if e != api.OK {
					continue
				}
				paid++
				if coins(t, payer)+coins(t, payee) != coins(t, a)+coins(t, b) || payer != of(a.Wallet-n, a.Bank) || payee != of(b.Wallet+n, b.Bank) {
					t.Fatalf("Pay(%v, %v, %d): %v %v", a, b, n, payer, payee)
				}
			}
		}
	}
	if paid < 1000 {
		t.Errorf("%d pays were done", paid)
	}
}

// What is done is done back by the other work: the account is as it was.
func TestDoneBack(t *testing.T) {
	for _, c := range []struct{ there, back one }{{deposit(), withdraw()}, {withdraw(), deposit()}, {earn(), spend()}, {spend(), earn()}} {
		done := 0
		for _, a := range rightAccounts() {
			for _, n := range append(numbers(), a.Wallet, a.Bank, most-a.Wallet-a.Bank) {
				if then, e := c.there.work(a, n); e == api.OK {
					done++
					c.back.wantDone(t, then, n, a, api.OK)
				}
			}
		}
		if done < 100 {
			t.Errorf("%s is done %d times", c.there.name, done)
		}
	}
	for _, a := range rightAccounts() {
		for _, b := range rightAccounts() {
			if payer, payee, e := accounts.Pay(a, b, a.Wallet); e == api.OK {
				wantPaid(t, payee, payer, a.Wallet, b, a, api.OK)
			}
		}
	}
}

func TestOneToOne(t *testing.T) {
	of := make(map[string]api.Account)
	for _, a := range rightAccounts() {
		s, e := accounts.Bytes(a)
		if other, is := of[s]; is || e != api.OK || len(s) != 16 {
			t.Fatalf("Bytes(%v): %x %v, as %v", a, s, e, other)
		}
		of[s] = a
		if back, e := accounts.Parse(s); back != a || e != api.OK {
			t.Fatalf("Parse(%x): %v %v, want %v", s, back, e, a)
		}
	}
	if len(of) < 100 {
		t.Error(len(of))
	}
}

// A long run: four accounts, which earn, spend, move and pay, beside plain ones. All coins are those earned less those spent.
func TestALongRun(t *testing.T) {
	var all [4]api.Account
	var earned int64
	told := make(map[api.Errno]int)
	seed := uint32(1)
	next := func(n uint32) uint32 {
		seed = seed*1664525 + 1013904223
		return (seed >> 8) % n
	}
	number := func() int64 {
		switch next(8) {
		case 0:
			return most - int64(next(3))
		case 1:
			return int64(next(3)) - 1
		case 2:
			return most / 3
		}
		return int64(next(1000))
	}
	for range 40000 {
		from, to, n, e := next(4), next(4), number(), api.OK
		if kind := next(6); kind < 4 {
			w := ones()[kind]
			if e = w.wantAsTold(t, all[from], n); e == api.OK {
				all[from], _ = w.work(all[from], n)
				earned += n * []int64{0, 0, 1, -1}[kind]
			}
		} else if from != to {
			if e = wantPaidAsTold(t, all[from], all[to], n); e == api.OK {
				all[from], all[to], _ = accounts.Pay(all[from], all[to], n)
			}
		}
		told[e]++
		if have := coins(t, all[0]) + coins(t, all[1]) + coins(t, all[2]) + coins(t, all[3]); have != earned {
			t.Fatalf("%v: %d coins, earned %d", all, have, earned)
		}
		if t.Failed() {
			t.FailNow()
		}
	}
	for _, e := range []api.Errno{api.OK, api.ErrMoney, api.ErrFunds, api.ErrOverflow} {
		if told[e] < 100 {
			t.Errorf("%v is told %d times", e, told[e])
		}
	}
}

// Calls keep nothing: what they answer does not hang on those ahead of them.
func TestNothingIsKept(t *testing.T) {
	for range 3 {
		deposit().wantDone(t, of(5, 2), 4, of(1, 6), api.OK)
		withdraw().wantDone(t, of(5, 2), 3, none(), api.ErrFunds)
		earn().wantDone(t, of(5, 2), 1, of(6, 2), api.OK)
		spend().wantDone(t, of(-5, 2), 1, none(), api.ErrAccount)
		wantPaid(t, of(5, 0), of(1, 0), 2, of(3, 0), of(3, 0), api.OK)
		wantPaid(t, of(5, 0), of(most, 0), 2, none(), none(), api.ErrOverflow)
		wantBytes(t, of(5, 2), plainBytes(5, 2))
		wantNoBytes(t, of(5, -2))
		wantNoAccount(t, plainBytes(5, -2))
		if !accounts.Right(of(5, 2)) || accounts.Right(of(most, 2)) {
			t.Error("Right")
		}
	}
}

// FuzzWorks holds works of accounts and numbers against plain ones.
func FuzzWorks(f *testing.F) {
	for _, n := range edges() {
		f.Add(n, int64(0), int64(5), int64(2), int64(1))
		f.Add(int64(1), n, int64(0), n, n)
	}
	f.Fuzz(func(t *testing.T, wallet, bank, second, other, n int64) {
		a, b := of(wallet, bank), of(second, other)
		if accounts.Right(a) != plainRight(a) {
			t.Fatalf("Right(%v): %v", a, accounts.Right(a))
		}
		for _, w := range ones() {
			w.wantAsTold(t, a, n)
		}
		wantPaidAsTold(t, a, b, n)
		wantParsedAsTold(t, plainBytes(wallet, bank))
	})
}

// FuzzParse holds bytes against what the chapter tells of them.
func FuzzParse(f *testing.F) {
	for _, n := range edges() {
		f.Add(plainBytes(n))
		f.Add(plainBytes(n, 1))
		f.Add(plainBytes(1, n))
	}
	f.Fuzz(func(t *testing.T, s string) { wantParsedAsTold(t, s) })
}
