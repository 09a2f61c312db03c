package tree_test

import (
	"slices"
	"strings"

	"bazaar/api"
)

// knot is a node of a plain tree, in memory alone; own is whether its page is one of the work.
type knot struct {
	pairs []api.Pair
	keys  []string
	kids  []*knot
	own   bool
}

// model is a tree as the chapter tells it, and how many pages were taken, given and let go.
type model struct {
	root               *knot
	taken, given, gone int
}

// size is how many bytes a knot has.
func (k *knot) size() int {
	size := 1
	for _, p := range k.pairs {
		size += 2 + len(p.K) + len(p.V)
	}
	for _, key := range k.keys {
		size += 1 + len(key)
	}
	return size + 4*len(k.kids)
}

// tell tells of a knot as walk does.
func (k *knot) tell() string {
	var all []string
	for _, p := range k.pairs {
		all = append(all, strings.TrimRight(p.K, "."))
	}
	if len(k.kids) == 0 {
		return "(" + strings.Join(all, " ") + ")"
	}
	for i, kid := range k.kids {
		if i > 0 {
			all = append(all, strings.TrimRight(k.keys[i-1], "."))
		}
		all = append(all, kid.tell())
	}
	return "[" + strings.Join(all, " ") + "]"
}

// each calls f of a knot and of all below it.
func (k *knot) each(f func(*knot)) {
	f(k)
	for _, kid := range k.kids {
		kid.each(f)
	}
}

// made is a new knot, on a page of the work.
func (m *model) made(k knot) *knot {
	m.taken++
	k.own = true
	return &k
}

// copied lets a knot stand on a page of the work.
func (m *model) copied(k *knot) {
	if !k.own {
		m.taken++
		m.gone++
		k.own = true
	}
}

// dropped is a knot that is needed no more.
func (m *model) dropped(k *knot) {
	if k.own {
		m.given++
	} else {
		m.gone++
	}
}

// place is the place of a key in a branch.
func (k *knot) place(key string) int {
	at := 0
	for at < len(k.keys) && k.keys[at] <= key {
		at++
	}
	return at
}

// cut is both halves of a knot that is cut at a place, and the key between.
func (k *knot) cut(at int) (knot, string, knot) {
	if len(k.kids) == 0 {
		return knot{pairs: slices.Clone(k.pairs[:at])}, k.pairs[at].K, knot{pairs: slices.Clone(k.pairs[at:])}
	}
	a := knot{keys: slices.Clone(k.keys[:at-1]), kids: slices.Clone(k.kids[:at])}
	b := knot{keys: slices.Clone(k.keys[at:]), kids: slices.Clone(k.kids[at:])}
	return a, k.keys[at-1], b
}

// halves is both halves of a knot where the larger one has the fewest bytes.
func (k *knot) halves() (knot, string, knot) {
	least, parts := 1, len(k.pairs)
	if len(k.kids) > 0 {
		least, parts = 2, len(k.kids)
	}
	best, fewest := 0, 0
	for at := least; at <= parts-least; at++ {
		a, _, b := k.cut(at)
		if larger := max(a.size(), b.size()); best == 0 || larger < fewest {
			best, fewest = at, larger
		}
	}
	return k.cut(best)
}

// split splits the kid at a place, if it does not fit.
func (m *model) split(k *knot, at int) {
	if k.kids[at].size() <= 237 {
		return
	}
	a, key, b := k.kids[at].halves()
	a.own = k.kids[at].own
	k.kids[at] = &a
	k.kids = slices.Insert(k.kids, at+1, m.made(b))
	k.keys = slices.Insert(k.keys, at, key)
}

// put puts a pair.
func (m *model) put(p api.Pair) {
	if m.root == nil {
		m.root = m.made(knot{pairs: []api.Pair{p}})
		return
	}
	m.putBelow(m.root, p)
	above := &knot{kids: []*knot{m.root}}
	m.split(above, 0)
	m.root = above.kids[0]
	if len(above.kids) > 1 {
		m.root = m.made(*above)
	}
}

func (m *model) putBelow(k *knot, p api.Pair) {
	m.copied(k)
	if len(k.kids) > 0 {
		at := k.place(p.K)
		m.putBelow(k.kids[at], p)
		m.split(k, at)
		return
	}
	at, is := slices.BinarySearchFunc(k.pairs, p, func(a, b api.Pair) int { return strings.Compare(a.K, b.K) })
	if is {
		k.pairs[at] = p
	} else {
		k.pairs = slices.Insert(k.pairs, at, p)
	}
}

// remove deletes the pair of a key that is there.
func (m *model) remove(key string) {
	m.removeBelow(m.root, key)
	above := &knot{kids: []*knot{m.root}}
	m.split(above, 0)
	m.root = above.kids[0]
	if len(above.kids) > 1 {
		m.root = m.made(*above)
	}
	for len(m.root.kids) == 1 {
		m.dropped(m.root)
		m.root = m.root.kids[0]
	}
	if len(m.root.kids)+len(m.root.pairs) == 0 {
		m.dropped(m.root)
		m.root = nil
	}
}

func (m *model) removeBelow(k *knot, key string) {
	m.copied(k)
	if len(k.kids) == 0 {
		k.pairs = slices.DeleteFunc(k.pairs, func(p api.Pair) bool { return p.K == key })
		return
	}
	at := k.place(key)
	m.removeBelow(k.kids[at], key)
	if k.kids[at].size() < 60 && len(k.kids) > 1 {
		m.join(k, min(at, len(k.kids)-2))
	} else {
		m.split(k, at)
	}
}

// join joins the kid at a place with the next one.
func (m *model) join(k *knot, at int) {
	a, b := k.kids[at], k.kids[at+1]
	both := &knot{pairs: slices.Concat(a.pairs, b.pairs), kids: slices.Concat(a.kids, b.kids), own: true}
	if len(both.kids) > 0 {
		both.keys = slices.Concat(a.keys, []string{k.keys[at]}, b.keys)
	}
	m.copied(a)
	if both.size() <= 237 {
		m.dropped(b)
		k.kids[at] = both
		k.kids = slices.Delete(k.kids, at+1, at+2)
		k.keys = slices.Delete(k.keys, at, at+1)
		return
	}
	m.copied(b)
	left, between, right := both.halves()
	left.own, right.own = true, true
	k.kids[at], k.keys[at], k.kids[at+1] = &left, between, &right
}

// stored lets all pages be the disk's.
func (m *model) stored() {
	if m.root != nil {
		m.root.each(func(k *knot) { k.own = false })
	}
	m.taken, m.given, m.gone = 0, 0, 0
}
