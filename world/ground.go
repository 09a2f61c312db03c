package world

import (
	"slices"
	"strings"

	"bazaar/api"
	"bazaar/txn"
)

// ground is what a world stands on, read alone: a database's transaction, a list, or a reader's view.
type ground interface {
	Get(key string) (string, bool, api.Errno)
	Range(from string, to string, most int) ([]api.Pair, api.Errno)
}

// laid lets changes be in a database's transaction.
func laid(b *txn.DB, changes ...api.Pair) api.Errno {
	for _, p := range changes {
		if e := lay(b, p); e != api.OK {
			return e
		}
	}
	return api.OK
}

func lay(b *txn.DB, p api.Pair) api.Errno {
	if p.V != "" {
		return b.Put(p)
	}
	_, e := b.Delete(p.K)
	return e
}

// view is what a reader of a database reads.
type view struct {
	base   *txn.DB
	reader int
}

func (v view) Get(key string) (string, bool, api.Errno) { return v.base.ReadGet(v.reader, key) }

func (v view) Range(from string, to string, most int) ([]api.Pair, api.Errno) {
	return v.base.ReadRange(v.reader, from, to, most)
}

// list is pairs, their keys rising.
type list []api.Pair

func (l list) Get(key string) (string, bool, api.Errno) {
	at, is := l.place(key)
	if !is {
		return "", false, api.OK
	}
	return l[at].V, true, api.OK
}

func (l list) Range(from string, to string, most int) ([]api.Pair, api.Errno) {
	first, _ := l.place(from)
	last, _ := l.place(to)
	// For a greater key halving goes no less far, even where keys do not rise: so last is never ahead of first.
	return l[first:min(last, first+most)], api.OK
}

// place is a key's place, and whether there is a pair of it.
func (l list) place(key string) (int, bool) {
	return slices.BinarySearchFunc(l, key, func(p api.Pair, key string) int { return strings.Compare(p.K, key) })
}

// with is what a list is behind changes, in new memory.
func (l list) with(changes ...api.Pair) []api.Pair {
	then := slices.Clone(l)
	for _, p := range changes {
		at, is := then.place(p.K)
		end := at
		if is {
			end++
		}
		if p.V == "" {
			then = slices.Delete(then, at, end)
			continue
		}
		then = slices.Replace(then, at, end, p)
	}
	return then
}
