package world_test

import (
	"math"
	"slices"
	"strings"
	"testing"

	"bazaar/api"
	"bazaar/world"
)

// P16.1: IsQuery.

func TestIsQuery(t *testing.T) {
	for op := -1000; op <= 1000; op++ {
		if world.IsQuery(op) != (op >= 16 && op <= 19) {
			t.Errorf("IsQuery(%d): %v", op, world.IsQuery(op))
		}
	}
	for _, op := range noOps() {
		if world.IsQuery(op) {
			t.Errorf("IsQuery(%d)", op)
		}
	}
	for _, op := range queries() {
		if !world.IsQuery(op) {
			t.Errorf("no query: %d", op)
		}
	}
}

// P16.1: the pairs of a world, by hand.

// eight is eight bytes of a small number, the greatest first.
func eight(n byte) string { return strings.Repeat("\x00", 7) + string([]byte{n}) }

func TestPairsByHand(t *testing.T) {
	s := stood(t, 200)
	one, two := "\x00\x00\x00\x01", "\x00\x00\x00\x02"
	s.wantPairs()
	s.wantRows(row{open(2), ok()})
	s.wantPairs("a"+two, eight(0)+eight(0))
	s.wantRows(row{open(1), ok()})
	s.wantPairs("a"+one, eight(0)+eight(0), "a"+two, eight(0)+eight(0))
	s.wantRows(row{mint(2, 9), ok()}, row{deposit(2, 4), ok()})
	s.wantPairs("a"+one, eight(0)+eight(0), "a"+two, eight(5)+eight(4), "t\x00\x00\x00", eight(9))
	s.wantRows(row{produce(2, 258, 7), ok()}, row{produce(1, 3, 5), ok()})
	s.wantPairs("a"+one, eight(0)+eight(0), "a"+two, eight(5)+eight(4),
		"i"+one+"\x00\x03", eight(5), "i"+two+"\x01\x02", eight(7),
		"t\x00\x00\x00", eight(9), "t\x01\x00\x03", eight(5), "t\x01\x01\x02", eight(7))
	s.wantRows(row{send(2, 1, 3, 258, 6), ok(1)}, row{list(1, 3, 4, 2), ok(1)}, row{send(2, 2, 2, 0, 0), ok(2)}, row{list(2, 258, 1, 0), ok(2)})
	s.wantPairs("a"+one, eight(0)+eight(0), "a"+two, eight(0)+eight(4),
		"i"+one+"\x00\x03", eight(1),
		"m"+one+one, two+eight(3)+"\x01\x02"+eight(6), "m"+two+two, two+eight(2)+"\x00\x00"+eight(0),
		"n\x01", eight(2), "n\x02", eight(2),
		"s"+one, one+"\x00\x03"+eight(4)+eight(2), "s"+two, two+"\x01\x02"+eight(1)+eight(0),
		"t\x00\x00\x00", eight(9), "t\x01\x00\x03", eight(5), "t\x01\x01\x02", eight(7))
	// What is none has no pair, but accounts, what was counted, and what is told of all.
	s.wantRows(row{claim(1, 1), ok()}, row{claim(2, 2), ok()}, row{cancel(1, 1), ok()}, row{cancel(2, 2), ok()})
	s.wantRows(row{destroy(1, 258, 6), ok()}, row{destroy(2, 258, 1), ok()}, row{destroy(1, 3, 5), ok()})
	s.wantRows(row{burn(1, 3), ok()}, row{burn(2, 2), ok()}, row{withdraw(2, 4), ok()}, row{burn(2, 4), ok()})
	s.wantPairs("a"+one, eight(0)+eight(0), "a"+two, eight(0)+eight(0), "n\x01", eight(2), "n\x02", eight(2),
		"t\x00\x00\x00", eight(0), "t\x01\x00\x03", eight(0), "t\x01\x01\x02", eight(0))
}

// What was minted or burned last of nothing is told of, too.
func TestTotalPairs(t *testing.T) {
	account := []string{"a\x00\x00\x00\x01", eight(0) + eight(0)}
	total := []string{"t\x00\x00\x00", eight(0)}
	s := worldOf(t, open(1))
	s.wantRows(row{mint(1, -1), no(api.ErrMoney)}, row{burn(1, 1), no(api.ErrFunds)}, row{mint(2, 0), no(api.ErrUnknown)}, row{produce(1, 0, 0), no(api.ErrGoods)}, row{destroy(1, 0, 1), no(api.ErrStock)})
	s.wantPairs(account...)
	worldOf(t, open(1), mint(1, 0)).wantPairs(slices.Concat(account, total)...)
	worldOf(t, open(1), burn(1, 0)).wantPairs(slices.Concat(account, total)...)
	worldOf(t, open(1), mint(1, 3), burn(1, 3)).wantPairs(slices.Concat(account, total)...)
	worldOf(t, open(1), produce(1, 0, 3), destroy(1, 0, 3)).wantPairs(slices.Concat(account, []string{"t\x01\x00\x00", eight(0)})...)
	// What moves nothing mints nothing.
	worldOf(t, open(1), deposit(1, 0), withdraw(1, 0)).wantPairs(account...)
}

// P16.1 and P16.2: each command, by hand; stands hold Step, Run, and a plain world against each other.

func TestExample(t *testing.T) {
	stood(t, 200).wantRows(row{open(1), ok()}, row{mint(1, 5), ok()}, row{account(1), ok(5)})
}

func TestOpen(t *testing.T) {
	s := stood(t, 200)
	s.wantRows(
		row{open(0), no(api.ErrPlace)}, row{open(1000001), no(api.ErrPlace)}, row{open(math.MaxUint32), no(api.ErrPlace)}, row{open(1 << 31), no(api.ErrPlace)},
		row{open(1), ok()}, row{open(1000000), ok()}, row{open(258), ok()}, row{open(999999), ok()},
		row{open(1), no(api.ErrExists)}, row{open(1000000), no(api.ErrExists)}, row{open(258), no(api.ErrExists)},
		row{open(0), no(api.ErrPlace)}, row{open(1000001), no(api.ErrPlace)},
		row{account(1), ok()}, row{account(1000000), ok()}, row{account(2), no(api.ErrUnknown)},
		row{mint(1, 5), ok()}, row{open(1), no(api.ErrExists)}, row{account(1), ok(5)},
	)
	// What it does not name makes no difference.
	s.wantRows(row{api.Command{Op: api.OpOpen, A: 2, B: 7, Item: 9, N: -5, M: math.MaxInt64}, ok()}, row{account(2), ok()})
}

// Each command with an account that there is not, whatever else it names.
func TestUnknown(t *testing.T) {
	s := worldOf(t, open(1), open(2), mint(1, 9), produce(1, 4, 9), send(1, 2, 1, 4, 1), list(1, 4, 1, 1))
	for _, op := range everyOp() {
		if op == api.OpOpen || op == api.OpTotal {
			continue
		}
		for _, stranger := range strangers() {
			for _, n := range edges() {
				s.wantTried(row{api.Command{Op: op, A: stranger, B: 1, Item: 4, N: n, M: 1}, no(api.ErrUnknown)}, row{api.Command{Op: op, A: stranger, B: stranger, Item: 4, N: 1, M: n}, no(api.ErrUnknown)})
			}
		}
	}
	for _, op := range []int{api.OpPay, api.OpGive, api.OpSend} {
		for _, stranger := range strangers() {
			for _, n := range edges() {
				s.wantTried(row{api.Command{Op: op, A: 1, B: stranger, Item: 4, N: n, M: 1}, no(api.ErrUnknown)})
			}
		}
	}
	// Those of mails and listings tell it of a number that there is not.
	for _, number := range []uint32{0, 2, 3, 1 << 30, 1<<30 + 1, math.MaxUint32} {
		s.wantTried(row{claim(2, number), no(api.ErrUnknown)}, row{sendBack(2, number), no(api.ErrUnknown)}, row{buy(2, number), no(api.ErrUnknown)}, row{cancel(1, number), no(api.ErrUnknown)})
	}
	// Of these a B that there is not makes no difference.
	for _, op := range []int{api.OpMint, api.OpBurn, api.OpMake, api.OpBreak, api.OpDeposit, api.OpAccount, api.OpCount, api.OpMails, api.OpTotal} {
		s.wantTried(row{api.Command{Op: op, A: 1, B: 9, Item: 4, N: 1}, s.tried(api.Command{Op: op, A: 1, B: 2, Item: 4, N: 1})})
		if a := s.tried(api.Command{Op: op, A: 1, B: 9, Item: 4, N: 1}); a.E != api.OK {
			t.Errorf("%d: %v", op, a)
		}
	}
}

func TestOneAndTheSame(t *testing.T) {
	s := worldOf(t, open(1), mint(1, 9), produce(1, 4, 9))
	for _, n := range edges() {
		s.wantTried(row{pay(1, 1, n), no(api.ErrArg)}, row{give(1, 1, 4, n), no(api.ErrArg)}, row{give(1, 1, 5, n), no(api.ErrArg)})
	}
	s.wantTried(row{pay(2, 2, 1), no(api.ErrUnknown)}, row{give(2, 2, 4, 1), no(api.ErrUnknown)}, row{send(2, 2, 1, 0, 0), no(api.ErrUnknown)})
	s.wantRows(row{send(1, 1, 2, 4, 3), ok(1)}, row{account(1), ok(7)}, row{count(1, 4), ok(6)}, row{mails(1), ok(1, 1)}, row{claim(1, 1), ok()}, row{account(1), ok(9)}, row{count(1, 4), ok(9)}, row{mails(1), ok()})
}

// Each command with each N, and each M, against the plain world.
func TestNumbers(t *testing.T) {
	told := make(map[int]map[api.Errno]int)
	worldOf(t, open(1), open(2)).numbers(told)
	worldOf(t, open(1), open(2), mint(1, 9), deposit(1, 4), mint(2, 3), produce(1, 4, 9), produce(2, 4, 1), send(1, 2, 1, 4, 2), list(2, 4, 1, 2)).numbers(told)
	worldOf(t, open(1), open(2), mint(1, most), produce(1, 4, most)).numbers(told)
	worldOf(t, open(1), open(2), mint(1, most), deposit(1, most), produce(2, 4, most)).numbers(told)
	worldOf(t, open(1), open(2), mint(1, most-1), deposit(1, 1), produce(1, 4, most-1), produce(2, 4, 1), mint(2, 1)).numbers(told)
	for op, want := range map[int][]api.Errno{
		api.OpMint:     {api.OK, api.ErrMoney, api.ErrOverflow},
		api.OpBurn:     {api.OK, api.ErrMoney, api.ErrFunds},
		api.OpMake:     {api.OK, api.ErrGoods, api.ErrOverflow},
		api.OpBreak:    {api.OK, api.ErrGoods, api.ErrStock},
		api.OpPay:      {api.OK, api.ErrMoney, api.ErrFunds},
		api.OpDeposit:  {api.OK, api.ErrMoney, api.ErrFunds},
		api.OpWithdraw: {api.OK, api.ErrMoney, api.ErrFunds},
		api.OpGive:     {api.OK, api.ErrGoods, api.ErrStock},
		api.OpSend:     {api.OK, api.ErrMail, api.ErrFunds, api.ErrStock},
		api.OpList:     {api.OK, api.ErrListing, api.ErrStock},
	} {
		for _, e := range want {
			if told[op][e] == 0 {
				t.Errorf("%d never told %d: %v", op, e, told[op])
			}
		}
		if len(told[op]) != len(want) {
			t.Errorf("%d: %v", op, told[op])
		}
	}
}

// numbers tries each command with all edges, and counts what is told.
func (s *stand) numbers(told map[int]map[api.Errno]int) {
	s.Helper()
	for _, op := range []int{api.OpMint, api.OpBurn, api.OpMake, api.OpBreak, api.OpPay, api.OpDeposit, api.OpWithdraw, api.OpGive, api.OpSend, api.OpList} {
		if told[op] == nil {
			told[op] = make(map[api.Errno]int)
		}
		others := []int64{0}
		if op == api.OpSend || op == api.OpList {
			others = edges()
		}
		for _, n := range edges() {
			for _, m := range others {
				told[op][s.tried(api.Command{Op: op, A: 1, B: 2, Item: 4, N: n, M: m}).E]++
			}
		}
	}
}

func TestMint(t *testing.T) {
	s := worldOf(t, open(1), open(2))
	s.wantTried(
		row{mint(1, -1), no(api.ErrMoney)}, row{mint(1, math.MinInt64), no(api.ErrMoney)}, row{mint(1, most+1), no(api.ErrMoney)}, row{mint(1, math.MaxInt64), no(api.ErrMoney)},
		row{mint(1, 0), ok()}, row{mint(1, 1), ok()}, row{mint(1, most), ok()},
	)
	// The bound of all coins, whosever they are: wallets, banks, mails.
	s.wantRows(
		row{mint(1, most-3), ok()}, row{mint(2, 4), no(api.ErrOverflow)}, row{mint(2, 3), ok()}, row{mint(2, 1), no(api.ErrOverflow)}, row{mint(1, 1), no(api.ErrOverflow)}, row{mint(1, most), no(api.ErrOverflow)}, row{mint(1, 0), ok()}, row{mint(1, -1), no(api.ErrMoney)},
		row{deposit(1, most-3), ok()}, row{mint(1, 1), no(api.ErrOverflow)}, row{mint(1, 0), ok()},
		row{send(2, 1, 3, 0, 0), ok(1)}, row{mint(2, 1), no(api.ErrOverflow)}, row{total(0, 0), ok(most)},
		row{claim(1, 1), ok()}, row{account(1), ok(3, most-3)}, row{mint(1, 1), no(api.ErrOverflow)},
		row{burn(1, 2), ok()}, row{mint(1, 3), no(api.ErrOverflow)}, row{mint(1, 2), ok()}, row{account(1), ok(3, most-3)},
	)
}

func TestBurn(t *testing.T) {
	s := worldOf(t, open(1), open(2), mint(1, 9), deposit(1, 4), mint(2, 7))
	s.wantTried(
		row{burn(1, -1), no(api.ErrMoney)}, row{burn(1, most+1), no(api.ErrMoney)}, row{burn(1, math.MinInt64), no(api.ErrMoney)}, row{burn(1, math.MaxInt64), no(api.ErrMoney)},
		row{burn(1, 6), no(api.ErrFunds)}, row{burn(1, most), no(api.ErrFunds)}, row{burn(1, 5), ok()}, row{burn(1, 0), ok()},
	)
	s.wantRows(row{burn(1, 5), ok()}, row{account(1), ok(0, 4)}, row{burn(1, 1), no(api.ErrFunds)}, row{total(0, 0), ok(11)}, row{burn(2, 3), ok()}, row{account(2), ok(4)}, row{total(0, 0), ok(8)}, row{burn(2, 4), ok()}, row{withdraw(1, 4), ok()}, row{burn(1, 4), ok()}, row{total(0, 0), ok()}, row{burn(1, 0), ok()}, row{burn(1, 1), no(api.ErrFunds)})
}

// twenty is commands that let an account have twenty stacks: items 10, 12, and so on, one of each.
func twenty(a uint32) []api.Command {
	var l []api.Command
	for i := range 20 {
		l = append(l, produce(a, uint16(10+2*i), 1))
	}
	return l
}

func TestMake(t *testing.T) {
	s := worldOf(t, open(1), open(2))
	for _, item := range []uint16{0, 1, 258, 65535} {
		s.wantTried(
			row{produce(1, item, 0), no(api.ErrGoods)}, row{produce(1, item, -1), no(api.ErrGoods)}, row{produce(1, item, math.MinInt64), no(api.ErrGoods)}, row{produce(1, item, most+1), no(api.ErrGoods)}, row{produce(1, item, math.MaxInt64), no(api.ErrGoods)},
			row{produce(1, item, 1), ok()}, row{produce(1, item, most), ok()},
		)
	}
	// The bound of all of an item, whosever they are: goods, mails, listings; another item has one of its own.
	s.wantRows(
		row{produce(1, 4, most-3), ok()}, row{produce(2, 4, 4), no(api.ErrOverflow)}, row{produce(2, 4, 3), ok()}, row{produce(1, 4, 1), no(api.ErrOverflow)}, row{produce(2, 4, most), no(api.ErrOverflow)}, row{produce(2, 4, 0), no(api.ErrGoods)},
		row{send(1, 2, 0, 4, most-3), ok(1)}, row{list(2, 4, 3, 1), ok(1)}, row{count(1, 4), ok()}, row{count(2, 4), ok()}, row{produce(1, 4, 1), no(api.ErrOverflow)}, row{total(1, 4), ok(most)},
		row{produce(1, 5, most), ok()}, row{produce(2, 5, 1), no(api.ErrOverflow)}, row{produce(2, 3, most), ok()}, row{count(2, 3), ok(most)},
		row{claim(2, 1), ok()}, row{cancel(2, 1), ok()}, row{count(2, 4), ok(most)}, row{destroy(2, 4, 2), ok()}, row{produce(1, 4, 3), no(api.ErrOverflow)}, row{produce(1, 4, 2), ok()},
	)
	s = worldOf(t, append([]api.Command{open(1), open(2), produce(2, 9, most), produce(2, 12, most-1)}, twenty(1)...)...)
	s.wantTried(
		row{produce(1, 11, 1), no(api.ErrSlots)}, row{produce(1, 0, most), no(api.ErrSlots)}, row{produce(1, 65535, 1), no(api.ErrSlots)}, row{produce(1, 10, 5), ok()}, row{produce(1, 48, most-1), ok()},
		// All of the item go ahead of the slots, and what is no amount ahead of both.
		row{produce(1, 9, 1), no(api.ErrOverflow)}, row{produce(1, 12, 1), no(api.ErrOverflow)}, row{produce(1, 9, 0), no(api.ErrGoods)}, row{produce(1, 11, most+1), no(api.ErrGoods)},
		row{produce(2, 11, 1), ok()},
	)
	s.wantRows(row{destroy(1, 48, 1), ok()}, row{produce(1, 11, 1), ok()}, row{produce(1, 48, 1), no(api.ErrSlots)})
}

func TestBreak(t *testing.T) {
	s := worldOf(t, open(1), open(2), produce(1, 4, 9), produce(2, 4, 2), produce(2, 5, 1))
	s.wantTried(
		row{destroy(1, 4, 0), no(api.ErrGoods)}, row{destroy(1, 4, -1), no(api.ErrGoods)}, row{destroy(1, 4, most+1), no(api.ErrGoods)}, row{destroy(1, 4, math.MinInt64), no(api.ErrGoods)}, row{destroy(1, 5, 0), no(api.ErrGoods)},
		row{destroy(1, 4, 10), no(api.ErrStock)}, row{destroy(1, 4, most), no(api.ErrStock)}, row{destroy(1, 5, 1), no(api.ErrStock)}, row{destroy(1, 0, 1), no(api.ErrStock)},
	)
	s.wantRows(row{destroy(1, 4, 8), ok()}, row{count(1, 4), ok(1)}, row{total(1, 4), ok(3)}, row{destroy(1, 4, 1), ok()}, row{count(1, 4), ok()}, row{destroy(1, 4, 1), no(api.ErrStock)}, row{total(1, 4), ok(2)}, row{destroy(2, 4, 2), ok()}, row{total(1, 4), ok()}, row{total(1, 5), ok(1)})
	s.wantPairs("a\x00\x00\x00\x01", eight(0)+eight(0), "a\x00\x00\x00\x02", eight(0)+eight(0), "i\x00\x00\x00\x02\x00\x05", eight(1), "t\x01\x00\x04", eight(0), "t\x01\x00\x05", eight(1))
}

func TestPay(t *testing.T) {
	s := worldOf(t, open(1), open(2), mint(1, 9), deposit(1, 4), mint(2, 3))
	s.wantTried(
		row{pay(1, 2, 0), ok()}, row{pay(1, 2, 5), ok()}, row{pay(1, 2, 6), no(api.ErrFunds)}, row{pay(1, 2, most), no(api.ErrFunds)}, row{pay(1, 2, -1), no(api.ErrMoney)}, row{pay(1, 2, most+1), no(api.ErrMoney)}, row{pay(2, 1, 4), no(api.ErrFunds)},
	)
	s.wantRows(row{pay(1, 2, 2), ok()}, row{account(1), ok(3, 4)}, row{account(2), ok(5)}, row{pay(2, 1, 5), ok()}, row{account(1), ok(8, 4)}, row{account(2), ok()})
	s = worldOf(t, open(1), open(2), mint(2, most-5), deposit(2, most-5), mint(1, 5))
	s.wantRows(row{pay(1, 2, 5), ok()}, row{account(2), ok(5, most-5)}, row{pay(2, 1, 5), ok()})
}

func TestDepositAndWithdraw(t *testing.T) {
	s := worldOf(t, open(1), mint(1, 9), deposit(1, 4))
	s.wantTried(
		row{deposit(1, 0), ok()}, row{deposit(1, 5), ok()}, row{deposit(1, 6), no(api.ErrFunds)}, row{deposit(1, -1), no(api.ErrMoney)}, row{deposit(1, most), no(api.ErrFunds)}, row{deposit(1, most+1), no(api.ErrMoney)},
		row{withdraw(1, 0), ok()}, row{withdraw(1, 4), ok()}, row{withdraw(1, 5), no(api.ErrFunds)}, row{withdraw(1, -1), no(api.ErrMoney)}, row{withdraw(1, most), no(api.ErrFunds)}, row{withdraw(1, most+1), no(api.ErrMoney)},
	)
	s.wantRows(row{deposit(1, 5), ok()}, row{account(1), ok(0, 9)}, row{withdraw(1, 2), ok()}, row{account(1), ok(2, 7)}, row{total(0, 0), ok(9)})
}

func TestGive(t *testing.T) {
	s := worldOf(t, append([]api.Command{open(1), open(2), open(3), produce(1, 4, 9), produce(1, 10, 3), produce(3, 4, most-9)}, twenty(2)...)...)
	s.wantTried(
		row{give(1, 3, 4, 0), no(api.ErrGoods)}, row{give(1, 3, 4, -1), no(api.ErrGoods)}, row{give(1, 3, 4, most+1), no(api.ErrGoods)}, row{give(1, 3, 4, 10), no(api.ErrStock)}, row{give(1, 3, 5, 1), no(api.ErrStock)}, row{give(1, 3, 4, most), no(api.ErrStock)},
		row{give(1, 3, 4, 9), ok()}, row{give(3, 1, 4, most-9), ok()}, row{give(1, 2, 4, 9), no(api.ErrSlots)}, row{give(1, 2, 4, 10), no(api.ErrStock)}, row{give(1, 2, 10, 3), ok()},
	)
	s.wantRows(row{give(1, 3, 10, 2), ok()}, row{count(1, 10), ok(1)}, row{count(3, 10), ok(2)}, row{give(1, 3, 10, 1), ok()}, row{count(1, 10), ok()}, row{count(3, 10), ok(3)}, row{give(2, 1, 12, 1), ok()}, row{give(1, 2, 4, 9), ok()}, row{count(2, 4), ok(9)}, row{count(2, 12), ok()}, row{give(1, 2, 12, 1), no(api.ErrSlots)})
}

func TestSend(t *testing.T) {
	s := worldOf(t, open(1), open(2), mint(1, 9), deposit(1, 4), produce(1, 4, 9), produce(1, 0, 2))
	s.wantTried(
		row{send(1, 2, 5, 0, 0), ok(1)}, row{send(1, 2, 0, 4, 9), ok(1)}, row{send(1, 2, 5, 4, 9), ok(1)}, row{send(1, 2, 1, 0, 2), ok(1)}, row{send(1, 2, 0, 0, 1), ok(1)}, row{send(1, 1, 5, 4, 9), ok(1)},
		row{send(1, 2, 0, 0, 0), no(api.ErrMail)}, row{send(1, 2, 0, 4, 0), no(api.ErrMail)}, row{send(1, 2, 5, 4, 0), no(api.ErrMail)}, row{send(1, 2, -1, 4, 1), no(api.ErrMail)}, row{send(1, 2, 1, 4, -1), no(api.ErrMail)}, row{send(1, 2, most+1, 4, 1), no(api.ErrMail)}, row{send(1, 2, 1, 4, most+1), no(api.ErrMail)},
		row{send(1, 2, 6, 0, 0), no(api.ErrFunds)}, row{send(1, 2, most, 4, 1), no(api.ErrFunds)}, row{send(1, 2, 0, 4, 10), no(api.ErrStock)}, row{send(1, 2, 5, 5, 1), no(api.ErrStock)}, row{send(1, 2, 5, 0, most), no(api.ErrStock)}, row{send(1, 2, 6, 4, 10), no(api.ErrFunds)}, row{send(2, 1, 0, 4, 1), no(api.ErrStock)},
	)
	s.wantRows(
		row{send(1, 2, 2, 4, 3), ok(1)}, row{send(1, 2, 2, 0, 0), ok(2)}, row{send(1, 1, 1, 4, 6), ok(3)}, row{account(1), ok(0, 4)}, row{count(1, 4), ok()}, row{count(1, 0), ok(2)},
		row{mails(2), ok(2, 1)}, row{mails(1), ok(1, 3)}, row{send(1, 2, 1, 0, 0), no(api.ErrFunds)}, row{send(1, 2, 0, 0, 2), ok(4)}, row{mails(2), ok(3, 1)}, row{account(2), ok()}, row{count(2, 4), ok()}, row{total(0, 0), ok(9)}, row{total(1, 4), ok(9)},
	)
}

func TestClaim(t *testing.T) {
	s := worldOf(t, append([]api.Command{open(1), open(2), open(3), mint(1, 9), produce(1, 4, 9), produce(1, 10, 9), produce(1, 0, 2), send(1, 2, 2, 10, 3), send(1, 3, 4, 0, 0), send(1, 2, 0, 4, 9), send(1, 2, 1, 0, 0)}, twenty(2)...)...)
	s.wantTried(
		row{claim(2, 0), no(api.ErrUnknown)}, row{claim(2, 5), no(api.ErrUnknown)}, row{claim(2, 2), no(api.ErrUnknown)}, row{claim(3, 1), no(api.ErrUnknown)}, row{claim(1, 1), no(api.ErrUnknown)},
		row{claim(2, 3), no(api.ErrSlots)}, row{claim(2, 1), ok()}, row{claim(3, 2), ok()}, row{claim(2, 4), ok()},
	)
	s.wantRows(
		row{claim(2, 1), ok()}, row{claim(2, 1), no(api.ErrUnknown)}, row{account(2), ok(2)}, row{count(2, 10), ok(4)}, row{mails(2), ok(2, 3)}, row{claim(3, 2), ok()}, row{claim(3, 2), no(api.ErrUnknown)}, row{account(3), ok(4)}, row{mails(3), ok()},
		row{claim(2, 3), no(api.ErrSlots)}, row{mails(2), ok(2, 3)}, row{destroy(2, 48, 1), ok()}, row{claim(2, 3), ok()}, row{count(2, 4), ok(9)}, row{claim(2, 4), ok()}, row{account(2), ok(3)}, row{mails(2), ok()}, row{send(2, 1, 1, 0, 0), ok(5)},
	)
	// A mail of coins alone leaves the item 0 alone, be there some of it or none.
	s = worldOf(t, open(1), open(2), mint(1, 9), produce(1, 0, 2), send(1, 1, 1, 0, 0), send(1, 2, 1, 0, 0))
	s.wantRows(row{count(1, 0), ok(2)}, row{claim(1, 1), ok()}, row{count(1, 0), ok(2)}, row{claim(2, 2), ok()}, row{count(2, 0), ok()})
}

func TestReturn(t *testing.T) {
	s := worldOf(t, open(1), open(2), open(3), mint(1, 9), produce(1, 4, 9), send(1, 2, 2, 4, 3), send(1, 2, 1, 0, 0), send(1, 1, 1, 4, 1))
	s.wantTried(row{sendBack(2, 0), no(api.ErrUnknown)}, row{sendBack(2, 4), no(api.ErrUnknown)}, row{sendBack(1, 1), no(api.ErrUnknown)}, row{sendBack(3, 1), no(api.ErrUnknown)}, row{sendBack(2, 3), no(api.ErrUnknown)})
	was := clone(s.l)
	// It comes back, goes there again, and from an account to itself.
	s.wantRows(
		row{sendBack(2, 1), ok()}, row{mails(2), ok(1, 2)}, row{mails(1), ok(2, 1)}, row{sendBack(2, 1), no(api.ErrUnknown)}, row{claim(2, 1), no(api.ErrUnknown)},
		row{sendBack(1, 1), ok()}, row{mails(1), ok(1, 3)}, row{mails(2), ok(2, 1)}, row{sendBack(1, 1), no(api.ErrUnknown)},
	)
	if !slices.Equal(s.l, was) {
		t.Errorf("there and back: %x, want %x", s.l, was)
	}
	s.wantRows(row{sendBack(1, 3), ok()}, row{sendBack(1, 3), ok()}, row{mails(1), ok(1, 3)})
	if !slices.Equal(s.l, was) {
		t.Errorf("to itself: %x, want %x", s.l, was)
	}
	s.wantRows(row{sendBack(2, 1), ok()}, row{claim(1, 1), ok()}, row{account(1), ok(7)}, row{count(1, 4), ok(8)}, row{claim(1, 1), no(api.ErrUnknown)}, row{claim(1, 3), ok()}, row{sendBack(2, 2), ok()}, row{claim(1, 2), ok()}, row{account(1), ok(9)}, row{count(1, 4), ok(9)}, row{send(1, 2, 1, 0, 0), ok(4)})
}

func TestList(t *testing.T) {
	s := worldOf(t, open(1), open(2), mint(2, 9), produce(1, 4, 9), produce(1, 0, 2))
	s.wantTried(
		row{list(1, 4, 9, 0), ok(1)}, row{list(1, 4, 9, most), ok(1)}, row{list(1, 0, 1, 5), ok(1)},
		row{list(1, 4, 0, 5), no(api.ErrListing)}, row{list(1, 0, 0, 0), no(api.ErrListing)}, row{list(1, 4, -1, 5), no(api.ErrListing)}, row{list(1, 4, most+1, 5), no(api.ErrListing)}, row{list(1, 4, 1, -1), no(api.ErrListing)}, row{list(1, 4, 1, most+1), no(api.ErrListing)}, row{list(1, 4, 10, -1), no(api.ErrListing)},
		row{list(1, 4, 10, 5), no(api.ErrStock)}, row{list(1, 5, 1, 5), no(api.ErrStock)}, row{list(2, 4, 1, 5), no(api.ErrStock)}, row{list(1, 4, most, most), no(api.ErrStock)},
	)
	s.wantRows(row{list(1, 4, 4, 5), ok(1)}, row{list(1, 4, 5, most), ok(2)}, row{list(1, 4, 1, 5), no(api.ErrStock)}, row{list(1, 0, 2, 0), ok(3)}, row{count(1, 4), ok()}, row{count(1, 0), ok()}, row{total(1, 4), ok(9)}, row{mails(1), ok()})
}

func TestBuy(t *testing.T) {
	s := worldOf(t, append([]api.Command{open(1), open(2), open(3), mint(2, 9), deposit(2, 2), mint(3, 99), mint(1, 9), produce(1, 4, 9), produce(1, 10, 9), list(1, 4, 4, 5), list(1, 4, 5, 8), list(1, 10, 2, 0), list(1, 10, 1, most)}, twenty(3)...)...)
	s.wantTried(
		row{buy(2, 0), no(api.ErrUnknown)}, row{buy(2, 5), no(api.ErrUnknown)}, row{buy(1, 1), no(api.ErrArg)}, row{buy(1, 4), no(api.ErrArg)}, row{buy(1, 5), no(api.ErrUnknown)},
		row{buy(2, 2), no(api.ErrFunds)}, row{buy(2, 4), no(api.ErrFunds)}, row{buy(3, 1), no(api.ErrSlots)}, row{buy(3, 4), no(api.ErrFunds)}, row{buy(3, 3), ok()}, row{buy(2, 3), ok()},
	)
	s.wantRows(
		row{buy(2, 1), ok()}, row{account(2), ok(2, 2)}, row{account(1), ok(14)}, row{count(2, 4), ok(4)}, row{buy(2, 1), no(api.ErrUnknown)}, row{buy(3, 1), no(api.ErrUnknown)}, row{cancel(1, 1), no(api.ErrUnknown)},
		row{buy(3, 3), ok()}, row{count(3, 10), ok(3)}, row{account(3), ok(99)}, row{buy(3, 2), no(api.ErrSlots)}, row{destroy(3, 48, 1), ok()}, row{buy(3, 2), ok()}, row{account(3), ok(91)}, row{account(1), ok(22)}, row{total(0, 0), ok(117)}, row{total(1, 4), ok(9)},
		row{list(2, 4, 1, 1), ok(5)}, row{buy(1, 5), ok()}, row{count(1, 4), ok(1)},
	)
}

func TestCancel(t *testing.T) {
	s := worldOf(t, append([]api.Command{open(1), open(2), mint(2, 9), produce(1, 4, 9), list(1, 4, 4, 5), list(1, 4, 5, 0)}, twenty(1)...)...)
	s.wantTried(row{cancel(1, 0), no(api.ErrUnknown)}, row{cancel(1, 3), no(api.ErrUnknown)}, row{cancel(2, 1), no(api.ErrArg)}, row{cancel(2, 3), no(api.ErrUnknown)}, row{cancel(1, 1), no(api.ErrSlots)}, row{cancel(9, 1), no(api.ErrUnknown)})
	s.wantRows(row{destroy(1, 10, 1), ok()}, row{cancel(1, 1), ok()}, row{count(1, 4), ok(4)}, row{cancel(1, 1), no(api.ErrUnknown)}, row{buy(2, 1), no(api.ErrUnknown)}, row{cancel(2, 1), no(api.ErrUnknown)}, row{cancel(2, 2), no(api.ErrArg)}, row{cancel(1, 2), ok()}, row{count(1, 4), ok(9)}, row{account(2), ok(9)}, row{list(1, 4, 9, 1), ok(3)})
}

// Numbers of mails and of listings are counted apart, one by one, also behind those that are gone, and not by what is refused.
func TestNumbersOfMailsAndListings(t *testing.T) {
	s := worldOf(t, open(1), open(2), mint(1, 99), produce(1, 4, 99))
	for i := range int64(5) {
		s.wantRows(row{send(1, 2, 1, 0, 0), ok(2*i + 1)}, row{send(2, 1, 1, 0, 0), no(api.ErrFunds)}, row{list(1, 4, 1, 1), ok(i + 1)}, row{send(1, 2, 0, 4, 1), ok(2*i + 2)}, row{list(1, 5, 1, 1), no(api.ErrStock)}, row{sendBack(2, uint32(2*i+2)), ok()}, row{claim(1, uint32(2*i+2)), ok()}, row{cancel(1, uint32(i+1)), ok()})
	}
}

func TestQueries(t *testing.T) {
	s := worldOf(t, open(1), open(2))
	s.wantRows(row{mails(1), ok()}, row{count(1, 4), ok()}, row{account(1), ok()}, row{total(0, 0), ok()}, row{total(1, 0), ok()}, row{total(1, 4), ok()})
	for _, a := range []uint32{2, 3, 255, 256, 1000000, math.MaxUint32} {
		s.wantRows(row{total(a, 0), no(api.ErrArg)}, row{total(a, 4), no(api.ErrArg)})
	}
	s.wantRows(row{total(0, 1), no(api.ErrArg)}, row{total(0, 65535), no(api.ErrArg)})
	s.wantRows(
		row{mint(1, 9), ok()}, row{deposit(1, 2), ok()}, row{produce(1, 4, 3), ok()}, row{produce(2, 0, 5), ok()}, row{produce(2, 65535, 6), ok()}, row{produce(1, 65535, 1), ok()},
		row{account(1), ok(7, 2)}, row{account(2), ok()}, row{count(1, 4), ok(3)}, row{count(2, 4), ok()}, row{count(2, 0), ok(5)}, row{count(2, 65535), ok(6)}, row{count(1, 3), ok()}, row{count(1, 5), ok()},
		row{total(0, 0), ok(9)}, row{total(1, 0), ok(5)}, row{total(1, 4), ok(3)}, row{total(1, 65535), ok(7)}, row{total(1, 1), ok()}, row{total(0, 4), no(api.ErrArg)},
		row{burn(1, 7), ok()}, row{total(0, 0), ok(2)}, row{withdraw(1, 2), ok()}, row{burn(1, 2), ok()}, row{total(0, 0), ok()},
	)
}

// Mails of neighbours are told apart, also of the last account.
func TestMailsOfNeighbours(t *testing.T) {
	s := worldOf(t, open(1), open(2), open(255), open(256), open(999999), open(1000000), mint(1, 99))
	for i, to := range []uint32{256, 1000000, 999999, 255, 256, 1, 1000000} {
		s.wantRows(row{send(1, to, 1, 0, 0), ok(int64(i + 1))})
	}
	s.wantRows(row{mails(1), ok(1, 6)}, row{mails(2), ok()}, row{mails(255), ok(1, 4)}, row{mails(256), ok(2, 1)}, row{mails(999999), ok(1, 3)}, row{mails(1000000), ok(2, 2)})
	s.wantRows(row{claim(256, 1), ok()}, row{mails(256), ok(1, 5)}, row{sendBack(1000000, 2), ok()}, row{mails(1000000), ok(1, 7)}, row{mails(1), ok(2, 2)}, row{claim(1000000, 7), ok()}, row{mails(1000000), ok()})
}

// Goods of neighbours are told apart, too: twenty stacks of one leave the next one's room alone.
func TestGoodsOfNeighbours(t *testing.T) {
	s := worldOf(t, slices.Concat([]api.Command{open(255), open(256), open(999999), open(1000000)}, twenty(256), twenty(1000000))...)
	s.wantRows(row{produce(255, 65535, 3), ok()}, row{produce(999999, 65535, 4), ok()}, row{produce(256, 0, 1), no(api.ErrSlots)}, row{produce(1000000, 65535, 1), no(api.ErrSlots)}, row{count(255, 65535), ok(3)}, row{count(256, 10), ok(1)}, row{count(255, 10), ok()}, row{destroy(255, 10, 1), no(api.ErrStock)}, row{give(256, 255, 10, 1), ok()}, row{count(255, 10), ok(1)})
}

func TestNoCommand(t *testing.T) {
	s := worldOf(t, open(1), open(2), mint(1, 9))
	for _, op := range noOps() {
		for _, a := range []uint32{0, 1, 2, 9, 1000001, math.MaxUint32} {
			s.wantTried(row{api.Command{Op: op, A: a, B: 2, N: 1}, no(api.ErrArg)}, row{api.Command{Op: op, A: a, B: a, Item: 4, N: -1, M: -1}, no(api.ErrArg)})
		}
	}
}

// Where the last number was given, there is no next one. Such a world comes of as many steps.
func TestLastNumbers(t *testing.T) {
	s := worldOf(t, open(1), open(2), mint(1, 9), produce(1, 4, 9))
	s.plain.sent, s.plain.listed = 1<<30-1, 1<<30-2
	s.l = s.plain.pairs()
	planted(t, s.base, s.l...)
	s.wantRows(row{send(1, 2, 1, 4, 1), ok(1 << 30)}, row{mails(2), ok(1, 1<<30)}, row{list(1, 4, 1, 1), ok(1<<30 - 1)}, row{list(1, 4, 1, 1), ok(1 << 30)})
	s.wantTried(
		row{send(1, 2, 1, 4, 1), no(api.ErrOverflow)}, row{send(1, 1, 1, 0, 0), no(api.ErrOverflow)}, row{list(1, 4, 1, 1), no(api.ErrOverflow)},
		// What the mail, or the listing, is told goes ahead.
		row{send(1, 2, 0, 0, 0), no(api.ErrMail)}, row{send(1, 2, 99, 0, 0), no(api.ErrFunds)}, row{send(1, 2, 0, 4, 99), no(api.ErrStock)}, row{list(1, 4, 0, 1), no(api.ErrListing)}, row{list(1, 4, 99, 1), no(api.ErrStock)}, row{send(1, 9, 1, 4, 1), no(api.ErrUnknown)},
	)
	s.wantRows(row{sendBack(2, 1<<30), ok()}, row{claim(1, 1<<30), ok()}, row{buy(2, 1<<30), no(api.ErrFunds)}, row{cancel(1, 1<<30), ok()}, row{mails(1), ok()}, row{send(1, 2, 1, 4, 1), no(api.ErrOverflow)})
}

// Mails are counted up to a thousand.
func TestManyMails(t *testing.T) {
	_, b := fresh(t, 3000)
	must(t, b.Begin())
	l := worldOf(t, open(1), open(2), mint(1, 9999)).l
	planted(t, b, l...)
	want := func(c api.Command, a api.Answer) {
		t.Helper()
		then, stepped := world.Step(l, c)
		if ran := world.Run(b, c); stepped != a || ran != a {
			t.Fatalf("%+v: Step %v, Run %v, want %v", c, stepped, ran, a)
		}
		l = then
	}
	for i := range int64(1003) {
		want(send(1, 2, 1, 0, 0), ok(i+1))
		if i%100 == 98 || i > 990 {
			want(mails(2), ok(min(i+1, 1000), 1))
		}
	}
	want(mails(1), ok())
	for i := range uint32(5) {
		want(claim(2, i+1), ok())
		want(mails(2), ok(min(1003-int64(i)-1, 1000), int64(i)+2))
	}
	must(t, b.Commit())
	r, e := b.Read()
	must(t, e)
	if a := world.Ask(b, r, mails(2)); a != ok(998, 6) {
		t.Errorf("Ask: %v", a)
	}
}

// P16.1: lists that are no world. Nothing is promised of what is told, but that there is an end, and that they are left alone.

func wrongLists() [][]api.Pair {
	right := []api.Pair{{K: "a\x00\x00\x00\x01", V: eight(9) + eight(0)}, {K: "a\x00\x00\x00\x02", V: eight(9) + eight(0)}, {K: "i\x00\x00\x00\x01\x00\x04", V: eight(9)}, {K: "m\x00\x00\x00\x01\x00\x00\x00\x01", V: "\x00\x00\x00\x02" + eight(1) + "\x00\x04" + eight(1)}, {K: "n\x01", V: eight(1)}, {K: "s\x00\x00\x00\x01", V: "\x00\x00\x00\x02\x00\x04" + eight(1) + eight(1)}, {K: "t\x00\x00\x00", V: eight(19)}, {K: "t\x01\x00\x04", V: eight(11)}}
	backwards := clone(right)
	slices.Reverse(backwards)
	all := [][]api.Pair{nil, {}, {{}}, {{}, {}, {}}, backwards, slices.Concat(right, right), slices.Concat(backwards, right)}
	var slots []api.Pair
	for i := range byte(40) {
		slots = append(slots, api.Pair{K: "i\x00\x00\x00\x01\x00" + string([]byte{i}), V: eight(1)})
	}
	all = append(all, slices.Concat(right[:2], slots, right[3:]))
	for _, v := range []string{"", "x", eight(1), eight(0), "\xff" + eight(1)[1:], "\x10" + eight(1)[1:], eight(1) + eight(2), eight(9) + eight(9) + eight(9), strings.Repeat("\xff", 22), strings.Repeat("\x00", 22), strings.Repeat("\x00", 1000)} {
		for at := range right {
			l := clone(right)
			l[at].V = v
			all = append(all, l)
		}
	}
	for at := range right {
		for _, k := range []string{"", "a", "i\x00\x00\x00\x01", "i\x00\x00\x00\x01\x00\x04\x00", "m\x00\x00\x00\x01", "m\x00\x00\x00\x01\x00\x00\x00\x00", "m\x00\x00\x00\x01\xff\xff\xff\xff", "zz", "\xff\xff"} {
			l := clone(right)
			l[at].K = k
			all = append(all, l)
		}
	}
	return all
}

func TestWrongLists(t *testing.T) {
	for _, l := range wrongLists() {
		for _, op := range append(everyOp(), noOps()...) {
			for _, a := range []uint32{0, 1, 2, math.MaxUint32} {
				for _, b := range []uint32{0, 1, 2, math.MaxUint32} {
					for _, n := range []int64{math.MinInt64, 0, 1, most, math.MaxInt64} {
						was := clone(l)
						then, answer := world.Step(l, api.Command{Op: op, A: a, B: b, Item: 4, N: n, M: 1})
						if !slices.Equal(l, was) {
							t.Fatalf("Step changed %x to %x", was, l)
						}
						if answer.E != api.OK && (!slices.Equal(then, l) || answer.X != 0 || answer.Y != 0) {
							t.Fatalf("Step told %v, and %x of %x", answer, then, l)
						}
					}
				}
			}
		}
	}
}
