package mail_test

import (
	"encoding/binary"
	"maps"
	"math"
	"slices"
	"testing"

	"bazaar/api"
	"bazaar/mail"
)

// most is the greatest amount.
const most = 1152921504606846976

// of is a mail of these numbers.
func of(from uint32, money int64, item uint16, count int64) api.Mail {
	return api.Mail{From: from, Money: money, Stack: api.Stack{Item: item, Count: count}}
}

// has is an account of these coins.
func has(wallet, bank int64) api.Account { return api.Account{Wallet: wallet, Bank: bank} }

// none is the account, and noMail the mail, that stands beside an error.
func none() api.Account { return api.Account{} }

func noMail() api.Mail { return api.Mail{} }

// goodsOf is goods of these items and counts, turn by turn.
func goodsOf(numbers ...int64) []api.Stack {
	var l []api.Stack
	for i := 0; i < len(numbers); i += 2 {
		l = append(l, api.Stack{Item: uint16(numbers[i]), Count: numbers[i+1]})
	}
	return l
}

// stacks is n stacks, from an item on, each so many items behind the last one, of many counts.
func stacks(n, from, step int) []api.Stack {
	var l []api.Stack
	for i := range n {
		l = append(l, api.Stack{Item: uint16(from + i*step), Count: int64(i*i)%97 + 1})
	}
	return l
}

// with is goods where all there is of the stack's item is that, be the others what they are.
func with(l []api.Stack, s api.Stack) []api.Stack {
	l = clone(l)
	for i := range l {
		if l[i].Item == s.Item {
			l[i] = s
		}
	}
	return l
}

// clone is the same goods in other memory, without spare room.
func clone(l []api.Stack) []api.Stack {
	return append(make([]api.Stack, 0, len(l)), l...)
}

// brief is goods in a failing test's words.
func brief(l []api.Stack) []any {
	return []any{len(l), l[:min(len(l), 24)]}
}

// edges is the numbers at the ends of what is an amount, and of what is a number.
func edges() []int64 {
	return []int64{math.MinInt64, -1, 0, 1, most - 1, most, most + 1, math.MaxInt64}
}

// numbers is the edges, and numbers between them.
func numbers() []int64 {
	return append(edges(), -most, -2, 2, 5, 255, 256, 258, 1<<32, 1<<40+7, most/2, most+2, 1<<61, 1<<62, math.MinInt64+1, math.MinInt64+most, math.MaxInt64-1)
}

// senders is numbers of accounts, those that are none among them.
func senders() []uint32 {
	return []uint32{0, 1, 2, 255, 256, 258, 65536, 999999, 1000000, 1000001, 1 << 20, 1<<24 + 1, 1 << 31, 1<<32 - 1}
}

// items is items, those at the ends among them.
func items() []uint16 { return []uint16{0, 1, 4, 255, 256, 32768, 65535} }

// allMails is all mails of these, right or not.
func allMails() []api.Mail {
	var l []api.Mail
	for _, from := range senders() {
		for _, item := range items() {
			for _, money := range numbers() {
				for _, count := range numbers() {
					l = append(l, of(from, money, item, count))
				}
			}
		}
	}
	return l
}

// rightMails is those of them that are right.
func rightMails() []api.Mail {
	return slices.DeleteFunc(allMails(), func(m api.Mail) bool { return !plainMail(m) })
}

// wrongMails is mails that are not right, each for another reason, or for several.
func wrongMails() []api.Mail {
	return []api.Mail{
		noMail(), of(1, 0, 0, 0), of(1000000, 0, 0, 0),
		of(0, 1, 0, 0), of(0, 0, 4, 1), of(0, 2, 4, 3), of(1000001, 1, 0, 0), of(1000001, 2, 4, 3), of(1<<32-1, 1, 4, 1), of(1<<31, 1, 0, 0), of(1<<24+1, 1, 0, 0),
		of(1, -1, 0, 0), of(1, -1, 4, 1), of(1, math.MinInt64, 4, 1), of(1, most+1, 0, 0), of(1, most+1, 4, 1), of(1, math.MaxInt64, 0, 0),
		of(1, 0, 4, -1), of(1, 1, 4, -1), of(1, 1, 0, -1), of(1, 1, 4, math.MinInt64), of(1, 0, 4, most+1), of(1, 1, 0, most+1), of(1, 1, 4, math.MaxInt64),
		of(1, -1, 4, -1), of(1, most+1, 4, most+1), of(1, math.MinInt64, 0, math.MinInt64), of(1, math.MaxInt64, 0, math.MaxInt64), of(1, -1, 0, most+1),
		of(1, 0, 4, 0), of(1, 0, 65535, 0), of(1, 1, 1, 0), of(1, 1, 65535, 0), of(1, most, 256, 0), of(0, 0, 4, 0), of(1000001, -1, 4, 0),
	}
}

// plainAmount tells whether a number is an amount, by the chapter's words.
func plainAmount(n int64) bool { return n >= 0 && n <= 1152921504606846976 }

// plainMail tells whether a mail is right, by the chapter's words.
func plainMail(m api.Mail) bool {
	switch {
	case m.From < 1, m.From > 1000000:
		return false
	case !plainAmount(m.Money), !plainAmount(m.Stack.Count):
		return false
	case m.Money == 0 && m.Stack.Count == 0:
		return false
	case m.Stack.Count == 0:
		return m.Stack.Item == 0
	}
	return true
}

// plainAccount tells whether an account is right, by the chapter's words. Two amounts' sum does not wrap.
func plainAccount(a api.Account) bool {
	return plainAmount(a.Wallet) && plainAmount(a.Bank) && plainAmount(a.Wallet+a.Bank)
}

// plainGoods tells whether goods are right, by the chapter's words.
func plainGoods(l []api.Stack) bool {
	for i, s := range l {
		if s.Count == 0 || !plainAmount(s.Count) || i > 0 && l[i-1].Item >= s.Item {
			return false
		}
	}
	return len(l) <= 20
}

// changedBy is goods that have so many more of an item, or fewer, by a table.
func changedBy(l []api.Stack, item uint16, n int64) []api.Stack {
	table := make(map[uint16]int64)
	for _, s := range l {
		table[s.Item] = s.Count
	}
	table[item] += n
	var then []api.Stack
	for _, item := range slices.Sorted(maps.Keys(table)) {
		if table[item] != 0 {
			then = append(then, api.Stack{Item: item, Count: table[item]})
		}
	}
	return then
}

// countOf is how many of an item right goods have.
func countOf(l []api.Stack, item uint16) int64 {
	for _, s := range l {
		if s.Item == item {
			return s.Count
		}
	}
	return 0
}

// plainSend and plainClaim are Send and Claim by plain words, errors in the order of the promises.
func plainSend(a api.Account, l []api.Stack, m api.Mail) (api.Account, []api.Stack, api.Errno) {
	switch {
	case !plainMail(m):
		return none(), nil, api.ErrMail
	case !plainAccount(a):
		return none(), nil, api.ErrAccount
	case a.Wallet < m.Money:
		return none(), nil, api.ErrFunds
	case !plainGoods(l):
		return none(), nil, api.ErrGoods
	case countOf(l, m.Stack.Item) < m.Stack.Count:
		return none(), nil, api.ErrStock
	}
	return has(a.Wallet-m.Money, a.Bank), changedBy(l, m.Stack.Item, -m.Stack.Count), api.OK
}

func plainClaim(a api.Account, l []api.Stack, m api.Mail) (api.Account, []api.Stack, api.Errno) {
	switch {
	case !plainMail(m):
		return none(), nil, api.ErrMail
	case !plainAccount(a):
		return none(), nil, api.ErrAccount
	case a.Wallet+m.Money+a.Bank > most:
		return none(), nil, api.ErrOverflow
	case !plainGoods(l):
		return none(), nil, api.ErrGoods
	case countOf(l, m.Stack.Item)+m.Stack.Count > most:
		return none(), nil, api.ErrOverflow
	}
	then := changedBy(l, m.Stack.Item, m.Stack.Count)
	if len(then) > 20 {
		return none(), nil, api.ErrSlots
	}
	return has(a.Wallet+m.Money, a.Bank), then, api.OK
}

// plainBytes is a mail's bytes by the library's means, be it right or not.
func plainBytes(m api.Mail) string {
	s := binary.BigEndian.AppendUint32(nil, m.From)
	s = binary.BigEndian.AppendUint64(s, uint64(m.Money))
	s = binary.BigEndian.AppendUint16(s, m.Stack.Item)
	return string(binary.BigEndian.AppendUint64(s, uint64(m.Stack.Count)))
}

// plainParse is the mail of bytes by the library's means.
func plainParse(s string) (api.Mail, api.Errno) {
	if len(s) != 22 {
		return noMail(), api.ErrMail
	}
	b := []byte(s)
	m := of(binary.BigEndian.Uint32(b), int64(binary.BigEndian.Uint64(b[4:])), binary.BigEndian.Uint16(b[12:]), int64(binary.BigEndian.Uint64(b[14:])))
	if !plainMail(m) {
		return noMail(), api.ErrMail
	}
	return m, api.OK
}

// one is a work of an account, goods and a mail, and what is asked of it.
type one struct {
	name string
	work func(a api.Account, l []api.Stack, m api.Mail) (api.Account, []api.Stack, api.Errno)
	want func(a api.Account, l []api.Stack, m api.Mail) (api.Account, []api.Stack, api.Errno)
}

func send() one { return one{"Send", mail.Send, plainSend} }

func claim() one { return one{"Claim", mail.Claim, plainClaim} }

// wantDone checks what a work answers, and that the goods are what they were.
func (w one) wantDone(t *testing.T, a api.Account, l []api.Stack, m api.Mail, want api.Account, wantGoods []api.Stack, e api.Errno) {
	t.Helper()
	was := clone(l)
	then, goods, f := w.work(a, l, m)
	if then != want || !slices.Equal(goods, wantGoods) || f != e {
		t.Fatalf("%s(%v, %v, %v): %v %v %v, want %v %v %v", w.name, a, brief(l), m, then, brief(goods), f, want, brief(wantGoods), e)
	}
	if !slices.Equal(l, was) {
		t.Fatalf("%s(%v, %v, %v) changed the goods: %v", w.name, a, brief(was), m, brief(l))
	}
}

// wantRefused checks that a work tells an error, and nothing beside it.
func (w one) wantRefused(t *testing.T, a api.Account, l []api.Stack, m api.Mail, e api.Errno) {
	t.Helper()
	w.wantDone(t, a, l, m, none(), nil, e)
}

// wantAsTold checks that a work answers what the plain one does, and tells which error that is.
func (w one) wantAsTold(t *testing.T, a api.Account, l []api.Stack, m api.Mail) api.Errno {
	t.Helper()
	want, goods, e := w.want(a, l, m)
	w.wantDone(t, a, l, m, want, goods, e)
	return e
}

// row is an account, goods and a mail, and what a work of them must answer.
type row struct {
	a         api.Account
	l         []api.Stack
	m         api.Mail
	then      api.Account
	thenGoods []api.Stack
	e         api.Errno
}

// wantRows checks a work by hand.
func (w one) wantRows(t *testing.T, rows []row) {
	t.Helper()
	for _, r := range rows {
		w.wantDone(t, r.a, r.l, r.m, r.then, r.thenGoods, r.e)
	}
}

// wantBytes checks that a mail and bytes are each other's.
func wantBytes(t *testing.T, m api.Mail, s string) {
	t.Helper()
	if got, e := mail.Bytes(m); got != s || e != api.OK {
		t.Fatalf("Bytes(%v): %x %v, want %x", m, got, e, s)
	}
	if got, e := mail.Parse(s); got != m || e != api.OK {
		t.Fatalf("Parse(%x): %v %v, want %v", s, got, e, m)
	}
}

// wantNoBytes checks that a mail has none, and wantNoMail that bytes are no mail's.
func wantNoBytes(t *testing.T, m api.Mail) {
	t.Helper()
	if s, e := mail.Bytes(m); s != "" || e != api.ErrMail {
		t.Fatalf("Bytes(%v): %x %v", m, s, e)
	}
}

func wantNoMail(t *testing.T, s string) {
	t.Helper()
	if m, e := mail.Parse(s); m != noMail() || e != api.ErrMail {
		t.Fatalf("Parse(%x): %v %v", s, m, e)
	}
}

// wantParsedAsTold holds Parse against what the chapter tells of bytes; a mail's bytes are its own.
func wantParsedAsTold(t *testing.T, s string) api.Errno {
	t.Helper()
	m, e := plainParse(s)
	if e != api.OK {
		wantNoMail(t, s)
		return e
	}
	wantBytes(t, m, s)
	return e
}
