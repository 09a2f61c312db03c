package world

import (
	"bazaar/accounts"
	"bazaar/api"
	"bazaar/goods"
	"bazaar/keys"
	"bazaar/mail"
	"bazaar/money"
	"bazaar/shop"
)

// commands is what each command does, once the accounts that it needs were read.
func (w *work) commands() map[int]func() error {
	return map[int]func() error{
		api.OpOpen:     w.open,
		api.OpMint:     w.mint,
		api.OpBurn:     w.burn,
		api.OpMake:     w.produce,
		api.OpBreak:    w.destroy,
		api.OpPay:      w.pay,
		api.OpDeposit:  w.deposit,
		api.OpWithdraw: w.withdraw,
		api.OpGive:     w.give,
		api.OpSend:     w.send,
		api.OpClaim:    w.claim,
		api.OpReturn:   w.sendBack,
		api.OpList:     w.list,
		api.OpBuy:      w.buy,
		api.OpCancel:   w.cancel,
		api.OpAccount:  w.tellAccount,
		api.OpCount:    w.tellCount,
		api.OpMails:    w.tellMails,
		api.OpTotal:    w.tellTotal,
	}
}

func (w *work) open() error {
	p := accountAt(w.A)
	v, err := w.value(p)
	switch {
	case !keys.Right(p):
		return wrong(api.ErrPlace)
	case v != "":
		return wrong(api.ErrExists)
	}
	return w.end(err, accountPair(w.A, api.Account{}))
}

func (w *work) mint() error {
	all, err := w.changed(totalAt(coins, 0), money.Add, w.N)
	if err != nil {
		return err
	}
	a, e := accounts.Earn(w.own, w.N)
	return w.end(wrong(e), all, accountPair(w.A, a))
}

func (w *work) burn() error {
	a, e := accounts.Spend(w.own, w.N)
	if e != api.OK {
		return wrong(e)
	}
	all, err := w.changed(totalAt(coins, 0), money.Sub, w.N)
	return w.end(err, all, accountPair(w.A, a))
}

func (w *work) produce() error {
	s := api.Stack{Item: w.Item, Count: w.N}
	if !goods.Right([]api.Stack{s}) {
		return wrong(api.ErrGoods)
	}
	all, err := w.changed(totalAt(things, w.Item), money.Add, w.N)
	if err != nil {
		return err
	}
	l, err := w.goods(w.A)
	if err != nil {
		return err
	}
	then, e := goods.Give(l, s)
	return w.end(wrong(e), all, itemPair(w.A, w.Item, then))
}

func (w *work) destroy() error {
	l, err := w.goods(w.A)
	if err != nil {
		return err
	}
	then, e := goods.Take(l, api.Stack{Item: w.Item, Count: w.N})
	if e != api.OK {
		return wrong(e)
	}
	all, err := w.changed(totalAt(things, w.Item), money.Sub, w.N)
	return w.end(err, all, itemPair(w.A, w.Item, then))
}

func (w *work) pay() error {
	payer, payee, e := accounts.Pay(w.own, w.other, w.N)
	return w.end(wrong(e), accountPair(w.A, payer), accountPair(w.B, payee))
}

func (w *work) deposit() error {
	a, e := accounts.Deposit(w.own, w.N)
	return w.end(wrong(e), accountPair(w.A, a))
}

func (w *work) withdraw() error {
	a, e := accounts.Withdraw(w.own, w.N)
	return w.end(wrong(e), accountPair(w.A, a))
}

func (w *work) give() error {
	own, err := w.goods(w.A)
	if err != nil {
		return err
	}
	others, err := w.goods(w.B)
	if err != nil {
		return err
	}
	left, given, e := goods.Move(own, others, api.Stack{Item: w.Item, Count: w.N})
	return w.end(wrong(e), itemPair(w.A, w.Item, left), itemPair(w.B, w.Item, given))
}

func (w *work) send() error {
	l, err := w.goods(w.A)
	if err != nil {
		return err
	}
	m := api.Mail{From: w.A, Money: w.N, Stack: api.Stack{Item: w.Item, Count: w.M}}
	a, left, e := mail.Send(w.own, l, m)
	if e != api.OK {
		return wrong(e)
	}
	id, count, err := w.next(mails)
	w.X = int64(id)
	return w.end(err, accountPair(w.A, a), itemPair(w.A, w.Item, left), count, mailPair(w.B, id, m))
}

func (w *work) claim() error {
	m, err := w.letter(w.A, w.B)
	if err != nil {
		return err
	}
	l, err := w.goods(w.A)
	if err != nil {
		return err
	}
	a, then, e := mail.Claim(w.own, l, m)
	return w.end(wrong(e), accountPair(w.A, a), itemPair(w.A, m.Stack.Item, then), gone(mailAt(w.A, w.B)))
}

func (w *work) sendBack() error {
	m, err := w.letter(w.A, w.B)
	back := m
	back.From = w.A
	// Of a mail to its sender both pairs have one key: it must go ahead of coming back.
	return w.end(err, gone(mailAt(w.A, w.B)), mailPair(m.From, w.B, back))
}

func (w *work) list() error {
	l, err := w.goods(w.A)
	if err != nil {
		return err
	}
	x := api.Listing{Seller: w.A, Stack: api.Stack{Item: w.Item, Count: w.M}, Price: w.N}
	left, e := shop.List(l, x)
	if e != api.OK {
		return wrong(e)
	}
	id, count, err := w.next(listings)
	w.X = int64(id)
	return w.end(err, itemPair(w.A, w.Item, left), count, listingPair(id, x))
}

func (w *work) buy() error {
	x, err := w.offer(w.B)
	if err != nil {
		return err
	}
	if w.A == x.Seller {
		return wrong(api.ErrArg)
	}
	seller, err := w.account(x.Seller)
	if err != nil {
		return err
	}
	l, err := w.goods(w.A)
	if err != nil {
		return err
	}
	payer, payee, then, e := shop.Buy(w.own, seller, l, x)
	return w.end(wrong(e), accountPair(w.A, payer), accountPair(x.Seller, payee), itemPair(w.A, x.Stack.Item, then), gone(listingAt(w.B)))
}

func (w *work) cancel() error {
	x, err := w.offer(w.B)
	if err != nil {
		return err
	}
	if w.A != x.Seller {
		return wrong(api.ErrArg)
	}
	l, err := w.goods(w.A)
	if err != nil {
		return err
	}
	then, e := shop.Cancel(l, x)
	return w.end(wrong(e), itemPair(w.A, x.Stack.Item, then), gone(listingAt(w.B)))
}

func (w *work) tellAccount() error {
	w.X, w.Y = w.own.Wallet, w.own.Bank
	return nil
}

func (w *work) tellCount() error {
	n, err := w.amount(itemAt(w.A, w.Item))
	w.X = n
	return err
}

func (w *work) tellMails() error {
	l, err := w.under(api.KeyMail, w.A)
	if err != nil || len(l) == 0 {
		return err
	}
	first, e := keys.Parse(l[0].K)
	w.X, w.Y = int64(len(l)), int64(first.Mail)
	return wrong(e)
}

func (w *work) tellTotal() error {
	switch w.A {
	case coins:
		if w.Item != 0 {
			return wrong(api.ErrArg)
		}
		fallthrough
	case things:
		n, err := w.amount(totalAt(w.A, w.Item))
		w.X = n
		return err
	}
	return wrong(api.ErrArg)
}
