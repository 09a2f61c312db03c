package mail_test

import (
	"math"
	"slices"
	"strings"
	"testing"

	"bazaar/api"
	"bazaar/mail"
)

// P14.1: Right.

func TestRightByHand(t *testing.T) {
	for _, m := range []api.Mail{
		of(1, 1, 0, 0), of(1, 0, 0, 1), of(1, 0, 4, 1), of(1, 1, 0, 1), of(1, 1, 4, 1), of(1, 1, 65535, 1), of(258, 3, 4, 5),
		of(1000000, 1, 0, 0), of(1000000, 0, 1, 1), of(999999, 2, 3, 4),
		of(1, most, 0, 0), of(1, 0, 0, most), of(1, 0, 7, most), of(1, most, 7, most), of(1, most, 0, most), of(1000000, most-1, 65535, most-1),
	} {
		if !mail.Right(m) {
			t.Errorf("not right: %v", m)
		}
	}
	for _, m := range wrongMails() {
		if mail.Right(m) {
			t.Errorf("right: %v", m)
		}
	}
}

func TestRightOfEachFrom(t *testing.T) {
	for _, from := range append(senders(), 1000002, 1<<20-1, 1<<32-2, 1<<16+1, 1<<24, 1<<30) {
		want := from >= 1 && from <= 1000000
		if mail.Right(of(from, 1, 0, 0)) != want || mail.Right(of(from, 0, 4, 1)) != want || mail.Right(of(from, 2, 4, 3)) != want {
			t.Errorf("from %d: not %v", from, want)
		}
		if mail.Right(of(from, 0, 0, 0)) || mail.Right(of(from, 1, 4, 0)) || mail.Right(of(from, -1, 4, 1)) {
			t.Errorf("from %d: a wrong mail is right", from)
		}
	}
}

// Money and Count at each number alone, beside none, and beside each other.
func TestRightOfEachNumber(t *testing.T) {
	for _, n := range numbers() {
		amount := plainAmount(n)
		if mail.Right(of(1, n, 0, 0)) != (amount && n != 0) || mail.Right(of(1, n, 4, 1)) != amount || mail.Right(of(1, n, 4, 0)) {
			t.Errorf("money %d", n)
		}
		if mail.Right(of(1, 0, 0, n)) != (amount && n != 0) || mail.Right(of(1, 1, 0, n)) != amount || mail.Right(of(1, 1, 4, n)) != (amount && n != 0) {
			t.Errorf("count %d", n)
		}
		if mail.Right(of(1, n, 4, n)) != (amount && n != 0) {
			t.Errorf("both %d", n)
		}
	}
}

func TestRightOfEachItem(t *testing.T) {
	for item := range 1 << 16 {
		if !mail.Right(of(1, 0, uint16(item), 1)) || mail.Right(of(1, 1, uint16(item), 0)) != (item == 0) {
			t.Fatalf("item %d", item)
		}
	}
}

func TestRightOfAllMails(t *testing.T) {
	right := 0
	for _, m := range allMails() {
		if mail.Right(m) != plainMail(m) {
			t.Fatalf("Right(%v): %v", m, mail.Right(m))
		}
		if mail.Right(m) {
			right++
		}
	}
	if right < 1000 || right > len(allMails())-1000 {
		t.Errorf("%d of %d are right", right, len(allMails()))
	}
}

// P14.1: Bytes and Parse.

func TestBytesByHand(t *testing.T) {
	wantBytes(t, of(258, 3, 4, 5), "\x00\x00\x01\x02"+"\x00\x00\x00\x00\x00\x00\x00\x03"+"\x00\x04"+"\x00\x00\x00\x00\x00\x00\x00\x05")
	wantBytes(t, of(1, 1, 0, 0), "\x00\x00\x00\x01"+"\x00\x00\x00\x00\x00\x00\x00\x01"+"\x00\x00"+"\x00\x00\x00\x00\x00\x00\x00\x00")
	wantBytes(t, of(1, 0, 0, 1), "\x00\x00\x00\x01"+"\x00\x00\x00\x00\x00\x00\x00\x00"+"\x00\x00"+"\x00\x00\x00\x00\x00\x00\x00\x01")
	wantBytes(t, of(1000000, most, 65535, most), "\x00\x0f\x42\x40"+"\x10\x00\x00\x00\x00\x00\x00\x00"+"\xff\xff"+"\x10\x00\x00\x00\x00\x00\x00\x00")
	wantBytes(t, of(0x010203, 0x0102030405060708, 0x090a, 0x0008070605040302), "\x00\x01\x02\x03"+"\x01\x02\x03\x04\x05\x06\x07\x08"+"\x09\x0a"+"\x00\x08\x07\x06\x05\x04\x03\x02")
	wantBytes(t, of(999999, most-1, 256, 65536), "\x00\x0f\x42\x3f"+"\x0f\xff\xff\xff\xff\xff\xff\xff"+"\x01\x00"+"\x00\x00\x00\x00\x00\x01\x00\x00")
}

func TestBytesOfAllMails(t *testing.T) {
	for _, m := range append(allMails(), wrongMails()...) {
		if plainMail(m) {
			wantBytes(t, m, plainBytes(m))
			continue
		}
		wantNoBytes(t, m)
		wantNoMail(t, plainBytes(m))
	}
}

func TestParseRefusesSizes(t *testing.T) {
	s := plainBytes(of(258, 3, 4, 5))
	wantBytes(t, of(258, 3, 4, 5), s)
	wantNoMail(t, "")
	for size := range 22 {
		wantNoMail(t, s[:size])
		wantNoMail(t, s[22-size:])
	}
	for _, more := range []string{"\x00", "\x01", "\xff", s[:8], s, strings.Repeat("\x00", 8), strings.Repeat(s, 5000)} {
		wantNoMail(t, s+more)
		wantNoMail(t, more+s)
	}
	// Bytes of one kind, of each number: only twenty-two of them may be a mail's.
	for size := range 100 {
		for _, b := range []string{"\x00", "\x01", "\xff"} {
			wantParsedAsTold(t, strings.Repeat(b, size))
		}
	}
}

// A mail's numbers, as wide as amounts, are not its bytes.
func TestParseRefusesWideNumbers(t *testing.T) {
	eight := func(n byte) string { return strings.Repeat("\x00", 7) + string([]byte{n}) }
	wantNoMail(t, eight(1)+eight(2)+eight(3)+eight(4))
	wantNoMail(t, eight(1)+eight(2)+eight(3))
	wantNoMail(t, eight(1)[4:]+eight(2)+eight(3)+eight(4))
	wantNoMail(t, eight(1)+eight(2)+eight(3)[6:]+eight(4))
	wantBytes(t, of(1, 2, 3, 4), eight(1)[4:]+eight(2)+eight(3)[6:]+eight(4))
}

func TestParseRefusesFields(t *testing.T) {
	for _, m := range wrongMails() {
		wantNoMail(t, plainBytes(m))
		wantNoBytes(t, m)
	}
	// Of a sender's number that is too great the last bytes are one that is not.
	for _, from := range []uint32{1<<20 + 1, 1<<24 + 1, 1<<31 + 1} {
		wantNoMail(t, plainBytes(of(from, 2, 3, 4)))
	}
}

// Bytes of which one is another one: those of another mail, or of none.
func TestParseOfChangedBytes(t *testing.T) {
	told := make(map[api.Errno]int)
	for _, m := range []api.Mail{of(258, 3, 4, 5), of(1, 1, 0, 0), of(1, 0, 0, 1), of(1, 0, 1, 1), of(1000000, most, 65535, most), of(65536, 256, 256, 256), of(1, most-1, 0, 0), of(0x010203, 0x0102030405060708, 0x090a, 0x0008070605040302)} {
		for at := range 22 {
			for b := range 256 {
				s := []byte(plainBytes(m))
				s[at] = byte(b)
				told[wantParsedAsTold(t, string(s))]++
			}
		}
	}
	if told[api.OK] < 1000 || told[api.ErrMail] < 1000 {
		t.Error(told)
	}
}

func TestParseOfShortenedBytes(t *testing.T) {
	s := plainBytes(of(258, 3, 4, 5)) + plainBytes(of(1, 0, 1, 1)) + plainBytes(of(0, 1, 0, 0))
	for from := range len(s) {
		for to := from; to <= len(s); to++ {
			wantParsedAsTold(t, s[from:to])
		}
	}
}

// P14.2: Send and Claim.

func TestSendByHand(t *testing.T) {
	three := goodsOf(1, 3)
	some := goodsOf(1, 3, 5, 2)
	send().wantRows(t, []row{
		{has(5, 0), three, of(1, 2, 1, 3), has(3, 0), nil, api.OK},
		{has(5, 9), some, of(258, 2, 1, 2), has(3, 9), goodsOf(1, 1, 5, 2), api.OK},
		{has(5, 9), some, of(258, 2, 5, 2), has(3, 9), three, api.OK},
		{has(5, 9), some, of(258, 5, 5, 1), has(0, 9), goodsOf(1, 3, 5, 1), api.OK},
		{has(5, 9), some, of(258, 0, 1, 3), has(5, 9), goodsOf(5, 2), api.OK},
		{has(0, 0), goodsOf(0, 4), of(1, 0, 0, 1), has(0, 0), goodsOf(0, 3), api.OK},
		{has(0, most), goodsOf(0, most, 65535, most), of(1, 0, 65535, most), has(0, most), goodsOf(0, most), api.OK},
		{has(most, 0), stacks(20, 0, 1), of(1000000, most, 0, 1), has(0, 0), stacks(20, 0, 1)[1:], api.OK},
		// No things.
		{has(5, 9), some, of(1, 5, 0, 0), has(0, 9), some, api.OK},
		{has(5, 9), nil, of(1, 1, 0, 0), has(4, 9), nil, api.OK},
		{has(5, 9), []api.Stack{}, of(1, 1, 0, 0), has(4, 9), nil, api.OK},
		{has(5, 9), goodsOf(0, 7), of(1, 1, 0, 0), has(4, 9), goodsOf(0, 7), api.OK},
		{has(most, 0), stacks(20, 5, 3), of(1, most, 0, 0), has(0, 0), stacks(20, 5, 3), api.OK},
		// One coin, one thing more than there is. What is in the bank doesn't count.
		{has(5, 9), some, of(1, 6, 0, 0), none(), nil, api.ErrFunds},
		{has(5, 9), some, of(1, 6, 1, 1), none(), nil, api.ErrFunds},
		{has(0, most), some, of(1, 1, 1, 1), none(), nil, api.ErrFunds},
		{has(5, 9), some, of(1, 6, 1, 4), none(), nil, api.ErrFunds},
		{has(5, 9), some, of(1, 5, 1, 4), none(), nil, api.ErrStock},
		{has(5, 9), some, of(1, 0, 5, 3), none(), nil, api.ErrStock},
		{has(5, 9), some, of(1, 5, 2, 1), none(), nil, api.ErrStock},
		{has(5, 9), nil, of(1, 5, 0, 1), none(), nil, api.ErrStock},
		{has(5, 9), goodsOf(0, most-1), of(1, 0, 0, most), none(), nil, api.ErrStock},
	})
}

func TestClaimByHand(t *testing.T) {
	some := goodsOf(1, 3, 5, 2)
	full := stacks(20, 10, 2)
	claim().wantRows(t, []row{
		{has(3, 0), nil, of(1, 2, 1, 3), has(5, 0), goodsOf(1, 3), api.OK},
		{has(3, 9), some, of(258, 2, 1, 4), has(5, 9), goodsOf(1, 7, 5, 2), api.OK},
		{has(3, 9), some, of(258, 2, 2, 4), has(5, 9), goodsOf(1, 3, 2, 4, 5, 2), api.OK},
		{has(3, 9), some, of(258, 0, 0, 1), has(3, 9), goodsOf(0, 1, 1, 3, 5, 2), api.OK},
		{has(3, 9), some, of(258, 1, 65535, most), has(4, 9), goodsOf(1, 3, 5, 2, 65535, most), api.OK},
		{has(0, 0), nil, of(1000000, most, 7, most), has(most, 0), goodsOf(7, most), api.OK},
		{has(0, most), goodsOf(7, most-1), of(1, 0, 7, 1), has(0, most), goodsOf(7, most), api.OK},
		{has(0, most-1), nil, of(1, 1, 7, 1), has(1, most-1), goodsOf(7, 1), api.OK},
		// No things.
		{has(3, 9), some, of(1, 2, 0, 0), has(5, 9), some, api.OK},
		{has(3, 9), nil, of(1, 2, 0, 0), has(5, 9), nil, api.OK},
		{has(3, 9), []api.Stack{}, of(1, 2, 0, 0), has(5, 9), nil, api.OK},
		{has(3, 9), goodsOf(0, most), of(1, 2, 0, 0), has(5, 9), goodsOf(0, most), api.OK},
		{has(3, 9), full, of(1, 2, 0, 0), has(5, 9), full, api.OK},
		// The wallet overflows, or it and the bank together.
		{has(most, 0), some, of(1, 1, 1, 1), none(), nil, api.ErrOverflow},
		{has(0, most), some, of(1, 1, 0, 0), none(), nil, api.ErrOverflow},
		{has(1, 0), nil, of(1, most, 0, 0), none(), nil, api.ErrOverflow},
		{has(5, 9), nil, of(1, most-13, 0, 0), none(), nil, api.ErrOverflow},
		{has(5, 9), nil, of(1, most-14, 0, 0), has(most-9, 9), nil, api.OK},
		// A stack does.
		{has(3, 9), goodsOf(7, most), of(1, 1, 7, 1), none(), nil, api.ErrOverflow},
		{has(3, 9), goodsOf(7, 1), of(1, 0, 7, most), none(), nil, api.ErrOverflow},
		{has(3, 9), with(full, api.Stack{Item: 12, Count: most}), of(1, 0, 12, 1), none(), nil, api.ErrOverflow},
		// Twenty stacks, and a new item, or one that is there.
		{has(3, 9), full, of(1, 1, 11, 1), none(), nil, api.ErrSlots},
		{has(3, 9), full, of(1, 0, 0, most), none(), nil, api.ErrSlots},
		{has(3, 9), full, of(1, 1, 65535, 1), none(), nil, api.ErrSlots},
		{has(3, 9), full, of(1, 1, 10, 4), has(4, 9), with(full, api.Stack{Item: 10, Count: 5}), api.OK},
		{has(3, 9), full[:19], of(1, 1, 11, 4), has(4, 9), changedBy(full[:19], 11, 4), api.OK},
		{has(3, 9), full[1:], of(1, 1, 10, 1), has(4, 9), full, api.OK},
	})
}

// wrongAccounts is accounts that are not right, wrongGoods goods.
func wrongAccounts() []api.Account {
	return []api.Account{
		has(-1, 0), has(0, -1), has(5, -1), has(-1, 5), has(most+1, 0), has(0, most+1), has(most, 1), has(1, most), has(most, most),
		has(math.MinInt64, 0), has(0, math.MinInt64), has(math.MinInt64, math.MinInt64), has(math.MaxInt64, math.MaxInt64), has(math.MaxInt64, 5), has(5, math.MaxInt64),
	}
}

func wrongGoods() [][]api.Stack {
	return [][]api.Stack{
		goodsOf(1, 0), goodsOf(1, -1), goodsOf(1, most+1), goodsOf(1, math.MinInt64), goodsOf(1, math.MaxInt64), goodsOf(1, 3, 5, 0), goodsOf(1, 3, 4, 9, 5, -7),
		goodsOf(1, 3, 1, 3), goodsOf(5, 3, 1, 3), goodsOf(1, 9, 4, 9, 4, 9), goodsOf(4, 9, 1, 9), goodsOf(4, 9, 4, 9),
		stacks(21, 0, 1), stacks(21, 4, 2), stacks(22, 1, 3), stacks(300, 0, 1), make([]api.Stack, 21), make([]api.Stack, 1),
	}
}

// rightAccounts and rightGoods are right ones, of little and of all there may be.
func rightAccounts() []api.Account {
	return []api.Account{
		none(), has(1, 0), has(0, 1), has(5, 2), has(2, 5), has(3, 8), has(6, 300), has(300, 6), has(most, 0), has(0, most), has(most-1, 0), has(0, most-1), has(most-1, 1), has(1, most-1),
		has(most/2, most/2), has(most-300, 100), has(100, most-300), has(most-6, 5), has(5, most-6),
	}
}

func rightGoods() [][]api.Stack {
	return [][]api.Stack{
		nil, {}, goodsOf(0, 1), goodsOf(1, 3), goodsOf(4, 9), goodsOf(65535, 1), goodsOf(0, most), goodsOf(4, most-1), goodsOf(65535, most), goodsOf(0, 7, 4, 9, 65535, 2), goodsOf(1, 3, 255, 5, 256, most, 32768, 1),
		goodsOf(3, 1, 5, 2), stacks(19, 0, 1), stacks(19, 5, 3), stacks(20, 0, 1), stacks(20, 5, 3), stacks(20, 1, 3), stacks(20, 65516, 1), stacks(20, 0, 3449), with(stacks(20, 0, 1), api.Stack{Item: 4, Count: most}),
	}
}

// someMails is right mails, and wrong ones.
func someMails() []api.Mail {
	l := []api.Mail{
		of(1, 1, 0, 0), of(1000000, 5, 0, 0), of(2, most, 0, 0), of(2, most-1, 0, 0), of(1, 0, 4, 1), of(1, 0, 4, 9), of(1, 0, 4, 10), of(1, 0, 4, most), of(1, 0, 0, 1), of(1, 0, 0, most), of(258, 3, 4, 5),
		of(1, 1, 65535, 1), of(1, 6, 65535, 2), of(9, 300, 1, 3), of(9, 1, 1, 4), of(9, most, 256, most), of(9, 0, 32768, 1), of(9, most/2, 255, 5), of(9, 2, 3, 1),
	}
	return append(l, wrongMails()...)
}

// What is told first: of the mail, of the account, of its coins, of the goods, of its things.
func TestErrorsInOrder(t *testing.T) {
	for _, w := range []one{send(), claim()} {
		for _, m := range wrongMails() {
			w.wantRefused(t, has(9, 9), goodsOf(4, 9), m, api.ErrMail)
			for _, a := range append(wrongAccounts(), has(0, 0), has(most, 0)) {
				for _, l := range append(wrongGoods(), nil, stacks(20, 5, 1)) {
					w.wantRefused(t, a, l, m, api.ErrMail)
				}
			}
		}
		for _, m := range []api.Mail{of(1, 1, 0, 0), of(1, 0, 4, 1), of(1, 3, 4, 5), of(1, most, 4, most)} {
			for _, a := range wrongAccounts() {
				for _, l := range append(wrongGoods(), nil, goodsOf(4, 9), stacks(20, 5, 1)) {
					w.wantRefused(t, a, l, m, api.ErrAccount)
				}
			}
		}
	}
	for _, l := range append(wrongGoods(), nil) {
		for _, m := range []api.Mail{of(1, 3, 0, 0), of(1, 3, 4, 5), of(1, most, 4, most)} {
			send().wantRefused(t, has(2, 9), l, m, api.ErrFunds)
			claim().wantRefused(t, has(most-2, 0), l, m, api.ErrOverflow)
			claim().wantRefused(t, has(0, most-2), l, m, api.ErrOverflow)
		}
	}
	for _, l := range wrongGoods() {
		for _, m := range []api.Mail{of(1, 3, 0, 0), of(1, 3, 4, 5), of(1, 0, 4, 5), of(1, 0, 4, most)} {
			send().wantRefused(t, has(3, 9), l, m, api.ErrGoods)
			claim().wantRefused(t, has(3, 9), l, m, api.ErrGoods)
		}
	}
}

// A mail without things leaves right goods as they are, and tells of others.
func TestNoThings(t *testing.T) {
	m := of(7, 3, 0, 0)
	for _, l := range rightGoods() {
		send().wantDone(t, has(5, 2), l, m, has(2, 2), l, api.OK)
		claim().wantDone(t, has(5, 2), l, m, has(8, 2), l, api.OK)
	}
	for _, l := range append(wrongGoods(), stacks(65536, 0, 1)) {
		send().wantRefused(t, has(5, 2), l, m, api.ErrGoods)
		claim().wantRefused(t, has(5, 2), l, m, api.ErrGoods)
	}
}

// Mails of all there is, of one coin more, and of one thing more.
func TestSendOfAllThereIs(t *testing.T) {
	for _, a := range rightAccounts() {
		for _, l := range rightGoods() {
			for _, s := range l {
				send().wantDone(t, a, l, of(1, a.Wallet, s.Item, s.Count), has(0, a.Bank), changedBy(l, s.Item, -s.Count), api.OK)
				if a.Wallet < most {
					send().wantRefused(t, a, l, of(1, a.Wallet+1, s.Item, s.Count), api.ErrFunds)
				}
				if s.Count < most {
					send().wantRefused(t, a, l, of(1, a.Wallet, s.Item, s.Count+1), api.ErrStock)
				}
			}
		}
	}
}

func TestWorksOfMany(t *testing.T) {
	for _, w := range []one{send(), claim()} {
		told := make(map[api.Errno]int)
		for _, a := range slices.Concat(rightAccounts(), wrongAccounts()) {
			for _, l := range slices.Concat(rightGoods(), wrongGoods()) {
				for _, m := range someMails() {
					told[w.wantAsTold(t, a, l, m)]++
				}
			}
		}
		want := []api.Errno{api.OK, api.ErrMail, api.ErrAccount, api.ErrFunds, api.ErrGoods, api.ErrStock}
		if w.name == "Claim" {
			want = []api.Errno{api.OK, api.ErrMail, api.ErrAccount, api.ErrOverflow, api.ErrGoods, api.ErrSlots}
		}
		for _, e := range want {
			if told[e] < 100 {
				t.Errorf("%s: %v is told %d times", w.name, e, told[e])
			}
		}
		if len(told) != len(want) {
			t.Errorf("%s: %v", w.name, told)
		}
	}
}

// All small wallets, stacks and mails.
func TestWorksOfSmallNumbers(t *testing.T) {
	for wallet := int64(-1); wallet < 5; wallet++ {
		for count := int64(-1); count < 5; count++ {
			for money := int64(-1); money < 6; money++ {
				for n := int64(-1); n < 6; n++ {
					for item := range uint16(3) {
						m := of(3, money, item, n)
						for _, l := range [][]api.Stack{goodsOf(1, count), goodsOf(0, 2, 1, count), goodsOf(1, most-count)} {
							for _, a := range []api.Account{has(wallet, 2), has(2, wallet), has(most-wallet, 0), has(0, most-wallet)} {
								send().wantAsTold(t, a, l, m)
								claim().wantAsTold(t, a, l, m)
							}
						}
					}
				}
			}
		}
	}
}

// R3: what is answered shares no list, and no spare room, with what was handed in, nor with another answer.

// fill writes junk into goods, and into the room behind them.
func fill(l []api.Stack) {
	l = l[:cap(l)]
	for i := range l {
		l[i] = api.Stack{Item: 7777, Count: -7}
	}
}

func TestAnswersShareNoList(t *testing.T) {
	done := 0
	for _, w := range []one{send(), claim()} {
		for _, l := range append(rightGoods(), wrongGoods()...) {
			for _, m := range append(someMails(), of(1, 1, 5, 1), of(1, 1, 5, 4)) {
				room := slices.Concat(l, goodsOf(65535, 91, 65535, 92, 65535, 93))
				was := clone(room)
				_, first, _ := w.work(has(5, 2), room[:len(l)], m)
				_, second, _ := w.work(has(5, 2), room[:len(l)], m)
				want := clone(first)
				fill(second)
				if !slices.Equal(room, was) || !slices.Equal(first, want) {
					t.Fatalf("%s(.., %v, %v): %v; %v", w.name, brief(l), m, brief(room), brief(first))
				}
				fill(room)
				if !slices.Equal(first, want) {
					t.Fatalf("%s(.., %v, %v) shares memory: %v", w.name, brief(l), m, brief(first))
				}
				if len(first) > 0 {
					done++
				}
			}
		}
	}
	if done < 100 {
		t.Errorf("%d lists are answered", done)
	}
}

// P14.3.

func TestSentAndClaimedBySender(t *testing.T) {
	done := 0
	for _, a := range rightAccounts() {
		for _, l := range rightGoods() {
			mails := someMails()
			for _, s := range l {
				mails = append(mails, of(5, a.Wallet, s.Item, s.Count), of(5, 0, s.Item, 1))
			}
			for _, m := range mails {
				if then, goods, e := mail.Send(a, l, m); e == api.OK {
					done++
					wantKept(t, a, then, l, goods, m, -1)
					claim().wantDone(t, then, goods, m, a, l, api.OK)
				}
				if then, goods, e := mail.Claim(a, l, m); e == api.OK {
					wantKept(t, a, then, l, goods, m, 1)
					send().wantDone(t, then, goods, m, a, l, api.OK)
				}
			}
		}
	}
	if done < 1000 {
		t.Errorf("%d mails are sent", done)
	}
}

// wantKept checks that the bank and all other items are what they were, the wallet and the stack more by just the mail, or less, and that what is right stays so.
func wantKept(t *testing.T, a, then api.Account, l, goods []api.Stack, m api.Mail, sign int64) {
	t.Helper()
	if then != has(a.Wallet+sign*m.Money, a.Bank) || !plainAccount(then) || !plainGoods(goods) {
		t.Fatalf("%v of %v, %v: %v, %v", m, a, brief(l), then, brief(goods))
	}
	for _, s := range slices.Concat(l, goods, []api.Stack{m.Stack}) {
		more := int64(0)
		if s.Item == m.Stack.Item {
			more = sign * m.Stack.Count
		}
		if countOf(goods, s.Item) != countOf(l, s.Item)+more {
			t.Fatalf("%v of %v: item %d: %v", m, brief(l), s.Item, brief(goods))
		}
	}
}

func TestOneToOne(t *testing.T) {
	of := make(map[string]api.Mail)
	for _, m := range rightMails() {
		s, e := mail.Bytes(m)
		if other, is := of[s]; is || e != api.OK || len(s) != 22 {
			t.Fatalf("Bytes(%v): %x %v, as %v", m, s, e, other)
		}
		of[s] = m
		if back, e := mail.Parse(s); back != m || e != api.OK {
			t.Fatalf("Parse(%x): %v %v, want %v", s, back, e, m)
		}
	}
	if len(of) < 1000 {
		t.Error(len(of))
	}
}

// A long run: three carriers send mails, which others claim, or the senders do. Mails lie as bytes between. No coin and no thing is more or less.
func TestALongRun(t *testing.T) {
	wallets := []api.Account{has(1000, 5), has(0, 7), has(300, most/2)}
	goods := [][]api.Stack{stacks(20, 0, 1), stacks(20, 14, 1), nil}
	var lying []string
	told := make(map[api.Errno]int)
	seed := uint32(1)
	next := func(n uint32) uint32 {
		seed = seed*1664525 + 1013904223
		return (seed >> 8) % n
	}
	total := func() (int64, int64) {
		var coins, things int64
		for i, a := range wallets {
			coins += a.Wallet + a.Bank
			for _, s := range goods[i] {
				things += s.Count
			}
		}
		for _, s := range lying {
			m, _ := plainParse(s)
			coins += m.Money
			things += m.Stack.Count
		}
		return coins, things
	}
	coins, things := total()
	for range 30000 {
		at := next(3)
		var e api.Errno
		if next(2) == 0 || len(lying) == 0 {
			m := of(at+1, int64(next(200))-2, uint16(next(35)), int64(next(12))-1)
			if e = send().wantAsTold(t, wallets[at], goods[at], m); e == api.OK {
				wallets[at], goods[at], _ = mail.Send(wallets[at], goods[at], m)
				s, _ := mail.Bytes(m)
				lying = append(lying, s)
			}
		} else {
			from := int(next(uint32(len(lying))))
			m, f := mail.Parse(lying[from])
			if f != api.OK {
				t.Fatalf("Parse(%x): %v", lying[from], f)
			}
			if e = claim().wantAsTold(t, wallets[at], goods[at], m); e == api.OK {
				wallets[at], goods[at], _ = mail.Claim(wallets[at], goods[at], m)
				lying = slices.Delete(lying, from, from+1)
			}
		}
		told[e]++
		if c, n := total(); c != coins || n != things {
			t.Fatalf("%d coins, %d things, were %d and %d", c, n, coins, things)
		}
	}
	for _, e := range []api.Errno{api.OK, api.ErrMail, api.ErrFunds, api.ErrStock, api.ErrSlots} {
		if told[e] < 100 {
			t.Errorf("%v is told %d times", e, told[e])
		}
	}
}

// Calls keep nothing: what they answer does not hang on those ahead of them.
func TestNothingIsKept(t *testing.T) {
	m, l := of(258, 3, 4, 5), goodsOf(4, 9)
	for range 3 {
		send().wantDone(t, has(3, 8), l, m, has(0, 8), goodsOf(4, 4), api.OK)
		claim().wantDone(t, has(0, 8), nil, m, has(3, 8), goodsOf(4, 5), api.OK)
		send().wantRefused(t, has(2, 8), l, m, api.ErrFunds)
		send().wantRefused(t, has(3, 8), nil, m, api.ErrStock)
		claim().wantRefused(t, has(most, 0), l, m, api.ErrOverflow)
		send().wantRefused(t, has(3, 8), l, of(1, 3, 4, 0), api.ErrMail)
		wantBytes(t, m, plainBytes(m))
		wantNoBytes(t, of(1, 0, 0, 0))
		wantNoMail(t, plainBytes(of(1, 0, 0, 0)))
		if !mail.Right(m) || mail.Right(of(0, 3, 4, 5)) {
			t.Error("Right")
		}
	}
}

// FuzzMail holds works of one stack and a mail against plain ones.
func FuzzMail(f *testing.F) {
	for _, n := range edges() {
		f.Add(int64(5), int64(2), uint16(4), int64(9), uint32(1), n, uint16(4), int64(5))
		f.Add(int64(5), int64(2), uint16(4), int64(9), uint32(1), int64(3), uint16(4), n)
		f.Add(n, n, uint16(0), n, uint32(1000000), int64(1), uint16(0), int64(0))
	}
	f.Fuzz(func(t *testing.T, wallet, bank int64, item uint16, has int64, from uint32, money int64, sent uint16, count int64) {
		m, a := of(from, money, sent, count), api.Account{Wallet: wallet, Bank: bank}
		if mail.Right(m) != plainMail(m) {
			t.Fatalf("Right(%v): %v", m, mail.Right(m))
		}
		for _, l := range [][]api.Stack{nil, goodsOf(int64(item), has), goodsOf(int64(item), has, 65535, 1)} {
			send().wantAsTold(t, a, l, m)
			claim().wantAsTold(t, a, l, m)
		}
		wantParsedAsTold(t, plainBytes(m))
	})
}

// FuzzParse holds bytes against what the chapter tells of them.
func FuzzParse(f *testing.F) {
	for _, m := range append(wrongMails(), of(258, 3, 4, 5), of(1, 0, 0, 1), of(1000000, most, 65535, most)) {
		f.Add(plainBytes(m))
	}
	f.Fuzz(func(t *testing.T, s string) { wantParsedAsTold(t, s) })
}
