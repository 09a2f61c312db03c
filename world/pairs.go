package world

import (
	"errors"
	"iter"

	"bazaar/accounts"
	"bazaar/api"
	"bazaar/goods"
	"bazaar/keys"
	"bazaar/mail"
	"bazaar/money"
	"bazaar/shop"
)

const (
	// What is counted one by one.
	mails    = 1
	listings = 2

	// What is added up.
	coins  = 0
	things = 1
)

// Places of accounts, of items that somebody has, of mails to somebody, of listings, of what is counted, and of what is added up.
func accountAt(id uint32) api.Place { return api.Place{Kind: api.KeyAccount, A: id} }

func itemAt(id uint32, item uint16) api.Place {
	return api.Place{Kind: api.KeyItem, A: id, Item: item}
}

func mailAt(id, number uint32) api.Place {
	return api.Place{Kind: api.KeyMail, A: id, Mail: number}
}

func listingAt(number uint32) api.Place { return api.Place{Kind: api.KeyListing, A: number} }

func countAt(what uint32) api.Place { return api.Place{Kind: api.KeyCount, A: what} }

func totalAt(what uint32, item uint16) api.Place {
	return api.Place{Kind: api.KeyTotal, A: what, Item: item}
}

// pair is a place's pair. Here and below nothing is refused: what stands in a world is right, and what is made of an error's zero values changes nothing (see end).
func pair(p api.Place, v string) api.Pair {
	key, _ := keys.Key(p)
	return api.Pair{K: key, V: v}
}

// gone is of a place that has nothing any more.
func gone(p api.Place) api.Pair { return pair(p, "") }

func amountPair(p api.Place, n int64) api.Pair {
	v, _ := money.Bytes(n)
	return pair(p, v)
}

func accountPair(id uint32, a api.Account) api.Pair {
	v, _ := accounts.Bytes(a)
	return pair(accountAt(id), v)
}

func mailPair(id, number uint32, m api.Mail) api.Pair {
	v, _ := mail.Bytes(m)
	return pair(mailAt(id, number), v)
}

func listingPair(number uint32, x api.Listing) api.Pair {
	v, _ := shop.Bytes(x)
	return pair(listingAt(number), v)
}

// itemPair is the pair of an item that somebody has whose goods are these.
func itemPair(id uint32, item uint16, l []api.Stack) api.Pair {
	p, n := itemAt(id, item), goods.Count(l, item)
	if n == 0 {
		return gone(p)
	}
	return amountPair(p, n)
}

// value is what stands at a place: no bytes, if nothing does, or if there is no such place.
func (w *work) value(p api.Place) (string, error) {
	key, e := keys.Key(p)
	if e != api.OK {
		return "", nil
	}
	v, _, e := w.Get(key)
	return v, wrong(e)
}

// needed is what stands at a place, as its bytes are read: ErrUnknown, if nothing does.
func needed[T any](w *work, p api.Place, read func(string) (T, api.Errno)) (T, error) {
	var none T
	v, err := w.value(p)
	if err != nil {
		return none, err
	}
	if v == "" {
		return none, wrong(api.ErrUnknown)
	}
	found, e := read(v)
	return found, wrong(e)
}

// account is an account, letter the mail of a number to it, offer the listing of a number.
func (w *work) account(id uint32) (api.Account, error) {
	return needed(w, accountAt(id), accounts.Parse)
}

func (w *work) letter(id, number uint32) (api.Mail, error) {
	return needed(w, mailAt(id, number), mail.Parse)
}

func (w *work) offer(number uint32) (api.Listing, error) {
	return needed(w, listingAt(number), shop.Parse)
}

// amount is the amount at a place, 0 if nothing stands there.
func (w *work) amount(p api.Place) (int64, error) {
	v, err := w.value(p)
	if err != nil {
		return 0, err
	}
	return amount(v)
}

// amount is the amount of bytes, 0 of none.
func amount(v string) (int64, error) {
	l, e := money.Parse(v)
	if len(l) == 0 {
		return 0, wrong(e)
	}
	return l[0], nil
}

// changed is the pair of a place whose amount has become another one by n, as a work of money tells.
func (w *work) changed(p api.Place, work func(int64, int64) (int64, api.Errno), n int64) (api.Pair, error) {
	was, err := w.amount(p)
	if err != nil {
		return api.Pair{}, err
	}
	then, e := work(was, n)
	return amountPair(p, then), wrong(e)
}

// next is the number of the next mail, or listing, and the pair that counts it.
func (w *work) next(what uint32) (uint32, api.Pair, error) {
	p := countAt(what)
	n, err := w.amount(p)
	if err != nil {
		return 0, api.Pair{}, err
	}
	if n >= api.MaxId {
		return 0, api.Pair{}, wrong(api.ErrOverflow)
	}
	return uint32(n) + 1, amountPair(p, n+1), nil
}

// under is the pairs of a kind that are an account's, 1000 at most.
func (w *work) under(kind int, id uint32) ([]api.Pair, error) {
	from, to, e := keys.Of(kind, id)
	if e != api.OK {
		return nil, wrong(e)
	}
	l, e := w.Range(from, to, api.MaxRange)
	return l, wrong(e)
}

// goods is what an account carries.
func (w *work) goods(id uint32) ([]api.Stack, error) {
	pairs, err := w.under(api.KeyItem, id)
	if err != nil {
		return nil, err
	}
	var l []api.Stack
reading:
	for s, told := range stacks(pairs...) {
		if err = told; err != nil {
			break reading
		}
		l = append(l, s)
	}
	return l, err
}

// stacks goes through the stacks that pairs tell of, each beside what is wrong with it.
func stacks(pairs ...api.Pair) iter.Seq2[api.Stack, error] {
	return func(yield func(api.Stack, error) bool) {
		for _, pr := range pairs {
			p, e := keys.Parse(pr.K)
			n, err := amount(pr.V)
			if !yield(api.Stack{Item: p.Item, Count: n}, errors.Join(wrong(e), err)) {
				return
			}
		}
	}
}
