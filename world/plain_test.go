package world_test

import (
	"encoding/binary"
	"maps"
	"slices"

	"bazaar/api"
)

// place is an account, and the number of a mail to it.
type place struct{ account, number uint32 }

// plain is a world by the chapter's words, in tables, and what was minted, burned, made and broken in it.
type plain struct {
	accounts map[uint32]api.Account
	items    map[uint32]map[uint16]int64
	mails    map[place]api.Mail
	listings map[uint32]api.Listing
	// sent and listed is how many mails and listings there were.
	sent, listed int64
	// coins is all coins, once some were told of; things all of each item likewise.
	coins  map[struct{}]int64
	things map[uint16]int64

	minted, burned int64
	made, broken   map[uint16]int64
}

// nobody is the world at first.
func nobody() *plain {
	return &plain{
		accounts: map[uint32]api.Account{},
		items:    map[uint32]map[uint16]int64{},
		mails:    map[place]api.Mail{},
		listings: map[uint32]api.Listing{},
		coins:    map[struct{}]int64{},
		things:   map[uint16]int64{},
		made:     map[uint16]int64{},
		broken:   map[uint16]int64{},
	}
}

func (p *plain) clone() *plain {
	q := *p
	q.accounts = maps.Clone(p.accounts)
	q.items = map[uint32]map[uint16]int64{}
	for id, l := range p.items {
		q.items[id] = maps.Clone(l)
	}
	q.mails, q.listings = maps.Clone(p.mails), maps.Clone(p.listings)
	q.coins, q.things = maps.Clone(p.coins), maps.Clone(p.things)
	q.made, q.broken = maps.Clone(p.made), maps.Clone(p.broken)
	return &q
}

// pairs is the world's pairs by the library's means, sorted.
func (p *plain) pairs() []api.Pair {
	var l []api.Pair
	put := func(key []byte, value []byte) { l = append(l, api.Pair{K: string(key), V: string(value)}) }
	four, two := binary.BigEndian.AppendUint32, binary.BigEndian.AppendUint16
	eight := func(b []byte, n int64) []byte { return binary.BigEndian.AppendUint64(b, uint64(n)) }
	for id, a := range p.accounts {
		put(four([]byte("a"), id), eight(eight(nil, a.Wallet), a.Bank))
	}
	for id, items := range p.items {
		for item, n := range items {
			put(two(four([]byte("i"), id), item), eight(nil, n))
		}
	}
	for at, m := range p.mails {
		put(four(four([]byte("m"), at.account), at.number), eight(two(eight(four(nil, m.From), m.Money), m.Stack.Item), m.Stack.Count))
	}
	for number, x := range p.listings {
		put(four([]byte("s"), number), eight(eight(two(four(nil, x.Seller), x.Stack.Item), x.Stack.Count), x.Price))
	}
	if p.sent > 0 {
		put([]byte("n\x01"), eight(nil, p.sent))
	}
	if p.listed > 0 {
		put([]byte("n\x02"), eight(nil, p.listed))
	}
	for _, n := range p.coins {
		put([]byte("t\x00\x00\x00"), eight(nil, n))
	}
	for item, n := range p.things {
		put(two([]byte("t\x01"), item), eight(nil, n))
	}
	slices.SortFunc(l, func(a, b api.Pair) int { return slices.Compare([]byte(a.K), []byte(b.K)) })
	return l
}

// amount tells whether a number is an amount.
func amount(n int64) bool { return n >= 0 && n <= 1152921504606846976 }

// adding is money.Add's error, by plain words: two amounts' sum does not wrap.
func adding(a, b int64) api.Errno {
	switch {
	case !amount(a), !amount(b):
		return api.ErrMoney
	case !amount(a + b):
		return api.ErrOverflow
	}
	return api.OK
}

// taking is money.Sub's error.
func taking(a, b int64) api.Errno {
	switch {
	case !amount(a), !amount(b):
		return api.ErrMoney
	case b > a:
		return api.ErrFunds
	}
	return api.OK
}

// earning is accounts.Earn's error of an account that there is.
func (p *plain) earning(id uint32, n int64) api.Errno {
	a := p.accounts[id]
	e := adding(a.Wallet, n)
	if e == api.OK && !amount(a.Wallet+n+a.Bank) {
		e = api.ErrOverflow
	}
	return e
}

// giving is goods.Give's error of what an account has, dropping goods.Take's.
func (p *plain) giving(id uint32, item uint16, n int64) api.Errno {
	had, is := p.items[id][item]
	switch {
	case n < 1, !amount(n):
		return api.ErrGoods
	case !amount(had + n):
		return api.ErrOverflow
	case !is && len(p.items[id]) == 20:
		return api.ErrSlots
	}
	return api.OK
}

func (p *plain) dropping(id uint32, item uint16, n int64) api.Errno {
	switch {
	case n < 1, !amount(n):
		return api.ErrGoods
	case p.items[id][item] < n:
		return api.ErrStock
	}
	return api.OK
}

// earn and carry let an account have more, or less.
func (p *plain) earn(id uint32, wallet, bank int64) {
	a := p.accounts[id]
	p.accounts[id] = api.Account{Wallet: a.Wallet + wallet, Bank: a.Bank + bank}
}

func (p *plain) carry(id uint32, item uint16, n int64) {
	if n == 0 {
		return
	}
	if p.items[id] == nil {
		p.items[id] = map[uint16]int64{}
	}
	p.items[id][item] += n
	if p.items[id][item] == 0 {
		delete(p.items[id], item)
	}
}

// do does a command: X and Y are what it tells, if nothing is wrong.
func (p *plain) do(c api.Command) api.Answer {
	a := api.Answer{E: p.needed(c)}
	if a.E == api.OK {
		switch {
		case c.Op >= api.OpAccount:
			a = p.told(c)
		case c.Op >= api.OpSend:
			a = p.traded(c)
		default:
			a.E = p.moved(c)
		}
	}
	return a
}

// needed is the error that is told ahead of all else.
func (p *plain) needed(c api.Command) api.Errno {
	_, a := p.accounts[c.A]
	_, b := p.accounts[c.B]
	two := c.Op == api.OpPay || c.Op == api.OpGive
	switch {
	case c.Op < 1, c.Op > 19:
		return api.ErrArg
	case c.Op == api.OpOpen && (c.A < 1 || c.A > 1000000):
		return api.ErrPlace
	case c.Op == api.OpOpen && a:
		return api.ErrExists
	case c.Op == api.OpTotal && c.A != 1 && (c.A != 0 || c.Item != 0):
		return api.ErrArg
	case c.Op == api.OpOpen, c.Op == api.OpTotal:
		return api.OK
	case !a, (two || c.Op == api.OpSend) && !b:
		return api.ErrUnknown
	case two && c.A == c.B:
		return api.ErrArg
	}
	return api.OK
}

// first is the first error of several that is one.
func first(l ...api.Errno) api.Errno {
	for _, e := range l {
		if e != api.OK {
			return e
		}
	}
	return api.OK
}

// moved is of what makes, unmakes and moves coins and things.
func (p *plain) moved(c api.Command) (e api.Errno) {
	own := p.accounts[c.A]
	switch c.Op {
	case api.OpOpen:
		p.accounts[c.A] = api.Account{}
	case api.OpMint:
		if e = first(adding(p.coins[struct{}{}], c.N), p.earning(c.A, c.N)); e == api.OK {
			p.coins[struct{}{}] += c.N
			p.minted += c.N
			p.earn(c.A, c.N, 0)
		}
	case api.OpBurn:
		if e = taking(own.Wallet, c.N); e == api.OK {
			p.coins[struct{}{}] -= c.N
			p.burned += c.N
			p.earn(c.A, -c.N, 0)
		}
	case api.OpMake:
		if c.N == 0 || !amount(c.N) {
			return api.ErrGoods
		}
		if e = first(adding(p.things[c.Item], c.N), p.giving(c.A, c.Item, c.N)); e == api.OK {
			p.things[c.Item] += c.N
			p.made[c.Item] += c.N
			p.carry(c.A, c.Item, c.N)
		}
	case api.OpBreak:
		if e = p.dropping(c.A, c.Item, c.N); e == api.OK {
			p.things[c.Item] -= c.N
			p.broken[c.Item] += c.N
			p.carry(c.A, c.Item, -c.N)
		}
	case api.OpPay:
		if e = first(taking(own.Wallet, c.N), p.earning(c.B, c.N)); e == api.OK {
			p.earn(c.A, -c.N, 0)
			p.earn(c.B, c.N, 0)
		}
	case api.OpDeposit:
		if e = first(taking(own.Wallet, c.N), adding(own.Bank, c.N)); e == api.OK {
			p.earn(c.A, -c.N, c.N)
		}
	case api.OpWithdraw:
		if e = first(taking(own.Bank, c.N), adding(own.Wallet, c.N)); e == api.OK {
			p.earn(c.A, c.N, -c.N)
		}
	case api.OpGive:
		if e = first(p.dropping(c.A, c.Item, c.N), p.giving(c.B, c.Item, c.N)); e == api.OK {
			p.carry(c.A, c.Item, -c.N)
			p.carry(c.B, c.Item, c.N)
		}
	}
	return e
}

// traded is of mails and listings.
func (p *plain) traded(c api.Command) api.Answer {
	at := place{c.A, c.B}
	letter, isLetter := p.mails[at]
	offer, isOffer := p.listings[c.B]
	switch c.Op {
	case api.OpSend:
		return p.sentTo(c)
	case api.OpList:
		return p.laidOut(c)
	case api.OpClaim:
		if !isLetter {
			return no(api.ErrUnknown)
		}
		e := p.earning(c.A, letter.Money)
		if e == api.OK && letter.Stack.Count != 0 {
			e = p.giving(c.A, letter.Stack.Item, letter.Stack.Count)
		}
		if e != api.OK {
			return no(e)
		}
		p.earn(c.A, letter.Money, 0)
		p.carry(c.A, letter.Stack.Item, letter.Stack.Count)
		delete(p.mails, at)
	case api.OpReturn:
		if !isLetter {
			return no(api.ErrUnknown)
		}
		delete(p.mails, at)
		p.mails[place{letter.From, c.B}] = api.Mail{From: c.A, Money: letter.Money, Stack: letter.Stack}
	case api.OpBuy:
		if !isOffer {
			return no(api.ErrUnknown)
		}
		if offer.Seller == c.A {
			return no(api.ErrArg)
		}
		if e := first(taking(p.accounts[c.A].Wallet, offer.Price), p.earning(offer.Seller, offer.Price), p.giving(c.A, offer.Stack.Item, offer.Stack.Count)); e != api.OK {
			return no(e)
		}
		p.earn(c.A, -offer.Price, 0)
		p.earn(offer.Seller, offer.Price, 0)
		p.carry(c.A, offer.Stack.Item, offer.Stack.Count)
		delete(p.listings, c.B)
	case api.OpCancel:
		if !isOffer {
			return no(api.ErrUnknown)
		}
		if offer.Seller != c.A {
			return no(api.ErrArg)
		}
		if e := p.giving(c.A, offer.Stack.Item, offer.Stack.Count); e != api.OK {
			return no(e)
		}
		p.carry(c.A, offer.Stack.Item, offer.Stack.Count)
		delete(p.listings, c.B)
	}
	return ok()
}

func (p *plain) sentTo(c api.Command) api.Answer {
	if !amount(c.N) || !amount(c.M) || c.N == 0 && c.M == 0 || c.M == 0 && c.Item != 0 {
		return no(api.ErrMail)
	}
	e := taking(p.accounts[c.A].Wallet, c.N)
	if e == api.OK && c.M != 0 {
		e = p.dropping(c.A, c.Item, c.M)
	}
	if e == api.OK && p.sent == 1<<30 {
		e = api.ErrOverflow
	}
	if e != api.OK {
		return no(e)
	}
	p.earn(c.A, -c.N, 0)
	p.carry(c.A, c.Item, -c.M)
	p.sent++
	p.mails[place{c.B, uint32(p.sent)}] = api.Mail{From: c.A, Money: c.N, Stack: api.Stack{Item: c.Item, Count: c.M}}
	return ok(p.sent)
}

func (p *plain) laidOut(c api.Command) api.Answer {
	if !amount(c.N) || !amount(c.M) || c.M == 0 {
		return no(api.ErrListing)
	}
	e := p.dropping(c.A, c.Item, c.M)
	if e == api.OK && p.listed == 1<<30 {
		e = api.ErrOverflow
	}
	if e != api.OK {
		return no(e)
	}
	p.carry(c.A, c.Item, -c.M)
	p.listed++
	p.listings[uint32(p.listed)] = api.Listing{Seller: c.A, Stack: api.Stack{Item: c.Item, Count: c.M}, Price: c.N}
	return ok(p.listed)
}

// told is of queries.
func (p *plain) told(c api.Command) api.Answer {
	switch c.Op {
	case api.OpAccount:
		return ok(p.accounts[c.A].Wallet, p.accounts[c.A].Bank)
	case api.OpCount:
		return ok(p.items[c.A][c.Item])
	case api.OpMails:
		var numbers []uint32
		for at := range p.mails {
			if at.account == c.A {
				numbers = append(numbers, at.number)
			}
		}
		if len(numbers) == 0 {
			return ok()
		}
		return ok(min(int64(len(numbers)), 1000), int64(slices.Min(numbers)))
	}
	if c.A == 0 {
		return ok(p.coins[struct{}{}])
	}
	return ok(p.things[c.Item])
}
