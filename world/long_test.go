package world_test

import (
	"math"
	"slices"
	"testing"

	"bazaar/api"
	"bazaar/txn"
	"bazaar/world"
)

// P16.3, and all of P16.1 and P16.2 together: long runs, of which each command is held against the plain world, and whose pairs add up behind each.

// chance is a command of small numbers, most of which can be done; some are wrong.
func (s *stand) chance(d *dice) api.Command {
	ids := []uint32{1, 2, 3, 258, 1000000}
	c := api.Command{Op: pick(d, everyOp()...), A: pick(d, ids...), B: pick(d, ids...), Item: uint16(d.roll(6)), N: int64(d.roll(12)), M: int64(d.roll(5))}
	switch c.Op {
	case api.OpClaim, api.OpReturn:
		numbers := []uint32{uint32(d.roll(int(s.plain.sent) + 2))}
		for at := range s.plain.mails {
			if at.account == c.A {
				numbers = append(numbers, at.number)
			}
		}
		// A map goes through its keys in any order.
		slices.Sort(numbers)
		c.B = pick(d, numbers...)
	case api.OpBuy, api.OpCancel:
		c.B = uint32(max(0, int(s.plain.listed)-d.roll(4)))
		if x, is := s.plain.listings[c.B]; is && c.Op == api.OpCancel && d.roll(3) > 0 {
			c.A = x.Seller
		}
	case api.OpSend:
		if c.M == 0 {
			c.Item = 0
		}
	case api.OpTotal:
		c.A = uint32(d.roll(3))
	}
	switch d.roll(12) {
	case 0:
		c.A = pick(d, strangers()...)
	case 1:
		c.B = pick(d, strangers()...)
	case 2:
		c.N = pick(d, edges()...)
	case 3:
		c.M = pick(d, edges()...)
	case 4:
		c.Op = pick(d, noOps()...)
	case 5:
		c.Item = uint16(d.roll(30))
	}
	return c
}

// ended is how the transaction of a long run is ended now and then, and what was there when it began.
type ended struct {
	*stand
	l       []api.Pair
	plain   *plain
	readers map[int][]api.Pair
}

// commit keeps what was done, and roll forgets it.
func (r *ended) commit() {
	r.Helper()
	must(r.T, r.base.Commit())
	r.l, r.plain = r.stand.l, r.stand.plain.clone()
	must(r.T, r.base.Begin())
}

func (r *ended) roll() {
	r.Helper()
	must(r.T, r.base.Rollback())
	r.stand.l, r.stand.plain = r.l, r.plain.clone()
	must(r.T, r.base.Begin())
}

// tryCommit keeps what was done, or forgets it, if pages are wanting for that.
func (r *ended) tryCommit() {
	r.Helper()
	switch e := r.base.Commit(); e {
	case api.OK:
		r.l, r.plain = r.stand.l, r.stand.plain.clone()
	case api.ErrFull:
		r.stand.l, r.stand.plain = r.l, r.plain.clone()
	default:
		r.Fatalf("Commit: %d", e)
	}
	must(r.T, r.base.Begin())
}

// without does a command in the plain world and in the list alone.
func (r *ended) without(c api.Command) api.Answer {
	r.Helper()
	want := r.stand.plain.do(c)
	l, a := r.step(c)
	if a != want {
		r.Fatalf("%+v: Step %v, want %v", c, a, want)
	}
	r.stand.l = l
	return a
}

// read opens a reader of the last commit, or closes one, if there are several.
func (r *ended) read() {
	r.Helper()
	if len(r.readers) == 3 {
		oldest := math.MaxInt
		for reader := range r.readers {
			oldest = min(oldest, reader)
		}
		must(r.T, r.base.Close(oldest))
		delete(r.readers, oldest)
		return
	}
	reader, e := r.base.Read()
	must(r.T, e)
	r.readers[reader] = r.l
}

func TestLongRuns(t *testing.T) {
	told := make(map[int]map[api.Errno]int)
	for seed := range dice(6) {
		d := seed * 77
		s := stood(t, 2000)
		r := &ended{s, nil, nobody(), map[int][]api.Pair{}}
		for range 1500 {
			c := s.chance(&d)
			a := s.do(c)
			if told[c.Op] == nil {
				told[c.Op] = make(map[api.Errno]int)
			}
			told[c.Op][a.E]++
			switch d.roll(20) {
			case 0, 1:
				r.commit()
			case 2:
				r.roll()
			case 3:
				r.read()
			case 4:
				for reader, l := range r.readers {
					wantAsked(t, s.base, reader, l, 0, 1, 2, 258, 1000000)
				}
			}
		}
	}
	for op, errors := range map[int][]api.Errno{
		api.OpOpen: {api.ErrPlace, api.ErrExists}, api.OpMint: {api.ErrUnknown, api.ErrMoney, api.ErrOverflow}, api.OpBurn: {api.ErrUnknown, api.ErrMoney, api.ErrFunds},
		api.OpMake: {api.ErrUnknown, api.ErrGoods, api.ErrOverflow}, api.OpBreak: {api.ErrUnknown, api.ErrGoods, api.ErrStock}, api.OpPay: {api.ErrUnknown, api.ErrArg, api.ErrMoney, api.ErrFunds},
		api.OpDeposit: {api.ErrUnknown, api.ErrMoney, api.ErrFunds}, api.OpWithdraw: {api.ErrUnknown, api.ErrMoney, api.ErrFunds}, api.OpGive: {api.ErrUnknown, api.ErrArg, api.ErrGoods, api.ErrStock},
		api.OpSend: {api.ErrUnknown, api.ErrMail, api.ErrFunds, api.ErrStock}, api.OpClaim: {api.ErrUnknown}, api.OpReturn: {api.ErrUnknown}, api.OpList: {api.ErrUnknown, api.ErrListing, api.ErrStock},
		api.OpBuy: {api.ErrUnknown, api.ErrArg, api.ErrFunds}, api.OpCancel: {api.ErrUnknown, api.ErrArg}, api.OpAccount: {api.ErrUnknown}, api.OpCount: {api.ErrUnknown}, api.OpMails: {api.ErrUnknown}, api.OpTotal: {api.ErrArg},
	} {
		for _, e := range append(errors, api.OK) {
			if told[op][e] == 0 {
				t.Errorf("command %d never told %d: %v", op, e, told[op])
			}
		}
	}
}

// Runs at the bounds: amounts that are nearly all there may be, and few slots left.
func TestLongRunsAtTheBounds(t *testing.T) {
	full := 0
	for seed := range dice(4) {
		d := seed*99 + 5
		s := worldOf(t, slices.Concat([]api.Command{open(1), open(2), open(3), mint(1, most-20), mint(2, 9), deposit(2, 5), produce(1, 4, most-20), produce(2, 4, 9)}, twenty(3), twenty(2)[:19])...)
		for range 700 {
			c := s.chance(&d)
			c.A, c.B = min(c.A, 3), min(c.B, 30)
			c.Item = pick(&d, 4, uint16(2*d.roll(40)))
			c.N = pick(&d, c.N, most-c.N, c.N+1)
			switch s.do(c).E {
			case api.ErrOverflow, api.ErrSlots:
				full++
			}
		}
	}
	if full < 100 {
		t.Errorf("only %d were refused at the bounds", full)
	}
}

// Runs on few pages: a command is done, or refused for want of them, whatever it would put or delete.
func TestTightRuns(t *testing.T) {
	told := make(map[int]int)
	for pages := 8; pages < 40; pages++ {
		d := dice(pages * 31)
		r := &ended{stood(t, pages), nil, nobody(), nil}
		for i := range uint32(800) {
			c := r.chance(&d)
			// Accounts fill the pages, more and more rarely.
			if d.roll(int(i)/20+2) == 0 {
				c = open(i + 4)
			}
			a := world.Run(r.base, c)
			if a == no(api.ErrFull) {
				told[c.Op]++
				wantFull(t, r.base)
				r.roll()
				continue
			}
			if want := r.without(c); a != want {
				t.Fatalf("%d pages: %+v: %v, want %v", pages, c, a, want)
			}
			if got := all(t, r.base); !slices.Equal(got, r.stand.l) {
				t.Fatalf("%d pages: %+v: %x, want %x", pages, c, got, r.stand.l)
			}
			if d.roll(8) == 0 {
				r.tryCommit()
			}
		}
	}
	if len(told) < 8 {
		t.Errorf("only these were refused for want of pages: %v", told)
	}
}

// All coins are those minted less those burned, and all of an item likewise, by what the answers alone tell.
func TestAllThereIs(t *testing.T) {
	d := dice(7)
	s := stood(t, 300)
	coins, things := int64(0), make(map[uint16]int64)
	for range 1200 {
		c := s.chance(&d)
		if s.do(c).E != api.OK {
			continue
		}
		switch c.Op {
		case api.OpMint:
			coins += c.N
		case api.OpBurn:
			coins -= c.N
		case api.OpMake:
			things[c.Item] += c.N
		case api.OpBreak:
			things[c.Item] -= c.N
		}
		s.wantRows(row{total(0, 0), ok(coins)})
		held, pieces := added(s.l)
		if held.held != coins {
			t.Fatalf("%+v: %d coins are held, %d were minted", c, held.held, coins)
		}
		for item, n := range things {
			if pieces[item].held != n {
				t.Fatalf("%+v: %d of item %d are held, %d were made", c, pieces[item].held, item, n)
			}
			if a := world.Run(s.base, total(1, item)); a != ok(n) {
				t.Fatalf("%+v: %v of item %d, %d were made", c, a, item, n)
			}
		}
	}
}

// A query, and a command that is refused, leave a database's transaction as it was: committed, it has the same root.
func TestNothingIsTouched(t *testing.T) {
	touched, left := 0, 0
	for _, c := range append(tries(), account(1), account(2), count(1, 4), mails(1), mails(2), total(0, 0), total(1, 4)) {
		s := worldOf(t, some()...)
		must(t, s.base.Commit())
		root := s.base.Meta().Root
		must(t, s.base.Begin())
		a := world.Run(s.base, c)
		must(t, s.base.Commit())
		if a.E == api.OK && !world.IsQuery(c.Op) {
			touched++
			continue
		}
		left++
		b, e := txn.Open(s.disk)
		must(t, e)
		must(t, b.Begin())
		if got := all(t, b); !slices.Equal(got, s.l) || b.Meta().Root != root {
			t.Fatalf("%+v: %v, and %x", c, a, got)
		}
	}
	if touched < 8 || left < 50 {
		t.Errorf("%d were done, %d were not", touched, left)
	}
}
