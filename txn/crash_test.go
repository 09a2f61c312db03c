package txn_test

import (
	"fmt"
	"maps"
	"slices"
	"testing"

	"bazaar/api"
	"bazaar/disk"
	"bazaar/txn"
)

// P9.3: what readers read.

func TestAReaderReadsTheSame(t *testing.T) {
	d, b := fresh(t, 600)
	deal := dice(7)
	now := plain{}
	read := map[int]plain{}
	opened := 0
	for i := range 300 {
		if len(read) < 5 {
			opened++
			reader(t, b, opened)
			read[opened] = maps.Clone(now)
		}
		then := maps.Clone(now)
		begun(t, b)
		for range 1 + deal.roll(6) {
			change(t, b, then, &deal, 20)
		}
		wantRange(t, b, "", "", 1000, then.list(), api.OK)
		if deal.roll(3) == 0 {
			must(t, b.Rollback())
		} else {
			must(t, b.Commit())
			now = then
		}
		for number, p := range read {
			wantReadRange(t, b, number, "", "", 1000, p.list(), api.OK)
			for k := range 20 {
				key := keyOf(k)
				v, is := p[key]
				wantReadGet(t, b, number, key, v, is, api.OK)
			}
		}
		if open := slices.Sorted(maps.Keys(read)); i%3 == 0 {
			// The oldest one often, as the pages that it holds back are told by chunks, which take more of them.
			number := open[deal.roll(len(open))*(i%2)]
			must(t, b.Close(number))
			delete(read, number)
		}
		wantPairs(t, d, b, now.list())
		wantWhole(t, d, b)
	}
}

// keyOf is a key.
func keyOf(n int) string { return fmt.Sprintf("%03d", n) }

// change puts or deletes a pair of so many, there and in the transaction that is open.
func change(t *testing.T, b *txn.DB, then plain, deal *dice, keys int) {
	t.Helper()
	k := keyOf(deal.roll(keys))
	if deal.roll(3) == 0 {
		_, was := then[k]
		if is, e := b.Delete(k); is != was || e != api.OK {
			t.Fatalf("Delete %s: %v, %d", k, is, e)
		}
		delete(then, k)
		return
	}
	p := api.Pair{K: k, V: some(deal.roll(61))}
	must(t, b.Put(p))
	then[k] = p.V
}

// A reader holds its pages back, and no longer than it is open.
func TestReadersHoldPagesBack(t *testing.T) {
	_, b := fresh(t, 400)
	commits(t, b, pairs(words("abcdefgh")...)...)
	grow := func(n int) uint32 {
		high := b.Meta().High
		for range n {
			commits(t, b, pair("a"))
		}
		return b.Meta().High - high
	}
	if n := grow(30); n > 4 {
		t.Errorf("%d more pages without readers", n)
	}
	reader(t, b, 1)
	if n := grow(30); n < 60 {
		t.Errorf("%d more pages with a reader", n)
	}
	must(t, b.Close(1))
	if n := grow(30); n > 0 {
		t.Errorf("%d more pages behind it", n)
	}
}

// P9.3: commits that are cut.

// scene is a disk whose database has one commit, and what the next one changes.
type scene struct {
	name   string
	d      *disk.Disk
	change func(w *twin)
}

// scenes is some of them.
func scenes(t *testing.T) []scene {
	t.Helper()
	puts := func(keys ...string) func(*twin) {
		return func(w *twin) {
			for _, p := range pairs(keys...) {
				must(w.t, w.put(p))
			}
		}
	}
	removes := func(keys ...string) func(*twin) {
		return func(w *twin) {
			for _, k := range keys {
				must(w.t, w.remove(k))
			}
		}
	}
	empty, _ := fresh(t, 20)
	small, b := fresh(t, 30)
	commits(t, b, pairs(words("abcdef")...)...)
	begun(t, b)
	deletes(t, b, "a", "b")
	must(t, b.Commit())
	great, b := fresh(t, 200)
	deal := dice(3)
	for range 12 {
		begun(t, b)
		for range 40 {
			must(t, b.Put(pair(keyOf(deal.roll(60)))))
		}
		must(t, b.Commit())
	}
	if len(b.Chunks()) < 2 {
		t.Fatal(b.Chunks())
	}
	return []scene{
		{"nothing, on nothing", empty, func(*twin) {}},
		{"the first pairs", empty, puts("a", "b", "c", "d")},
		{"nothing", small, func(*twin) {}},
		{"a pair", small, puts("c")},
		{"pairs", small, puts("x", "y", "z")},
		{"all deleted", small, removes("c", "d", "e", "f")},
		{"a pair of many", great, puts(keyOf(33))},
		{"many", great, func(w *twin) {
			puts(keyOf(3), keyOf(30), keyOf(59))(w)
			must(w.t, w.remove(allOf(w.t, w.d, w.b)[9].K))
		}},
	}
}

// keeps is lists of how many bytes are kept of n writes: none, all, of each one alone some, and some of all.
func keeps(n int, deal *dice) [][]int {
	all := slices.Repeat([]int{64}, n)
	l := [][]int{nil, all}
	if n == 1 {
		for kept := range 64 {
			l = append(l, []int{kept})
		}
		return l
	}
	for range min(n, 4) {
		at := deal.roll(n)
		one := make([]int, at+1)
		one[at] = 1 + deal.roll(64)
		but := slices.Clone(all)
		but[at] = deal.roll(64)
		l = append(l, one, but, all[:at])
	}
	for range min(n, 4) {
		some := make([]int, deal.roll(n+1))
		for i := range some {
			some[i] = []int{0, 64, deal.roll(65)}[deal.roll(3)]
		}
		l = append(l, some)
	}
	return l
}

// cut begins the scene's transaction on a copy of its disk, lets the commit be cut behind n steps, and wants these to have been done.
func (s scene) cut(t *testing.T, n int) (*disk.Disk, plan, []api.Pair) {
	t.Helper()
	d := copied(t, s.d)
	w := &twin{t: t, d: d, b: opened(t, d)}
	w.begin(w.b.Meta().Tx)
	s.change(w)
	p, room := w.plan()
	if !room {
		t.Fatal(s.name)
	}
	then, e := w.b.Range("", "", 1000)
	must(t, e)
	must(t, w.b.Limit(n))
	writes := p.writes()
	switch {
	case n < p.ops():
		want(t, "Commit", w.b.Commit(), api.ErrDown)
		want(t, "Begin", w.b.Begin(), api.ErrDown)
	default:
		must(t, w.b.Commit())
	}
	wanted := writes[:min(n, len(writes))]
	switch n - len(writes) {
	case 1, 3:
		wanted = nil
	case 2:
		wanted = []int{int(p.meta.Tx%2) * 4}
	}
	if u := d.Unsynced(); !slices.Equal(u, wanted) {
		t.Errorf("%s, %d steps: unsynced %v, not %v", s.name, n, u, wanted)
	}
	return d, p, then
}

func TestCutCommits(t *testing.T) {
	deal := dice(11)
	for _, s := range scenes(t) {
		before := opened(t, s.d)
		now := allOf(t, s.d, before)
		_, p, _ := s.cut(t, 0)
		for n := range p.ops() + 1 {
			d, p, then := s.cut(t, n)
			for _, keep := range keeps(len(d.Unsynced()), &deal) {
				d, _, _ = s.cut(t, n)
				done := n == p.ops() || n == p.ops()-1 && len(keep) == 1 && keep[0] == 64
				must(t, d.Crash(keep))
				b := opened(t, d)
				if done {
					wantState(t, b, p.state)
					wantPairs(t, d, b, then)
				} else {
					wantState(t, b, stateOf(before))
					wantPairs(t, d, b, now)
				}
				wantWhole(t, d, b)
				if t.Failed() {
					t.Fatalf("%s: cut behind %d steps, %v kept", s.name, n, keep)
				}
				if n%5 == 0 || n >= p.ops()-3 {
					s.goOn(t, d, b)
				}
			}
		}
	}
}

// goOn does the scene's transaction, on what a crash has left, and is cut by another crash that keeps nothing; then once more.
func (s scene) goOn(t *testing.T, d *disk.Disk, b *txn.DB) {
	t.Helper()
	for range 2 {
		w := &twin{t: t, d: d, b: b}
		w.begin(b.Meta().Tx)
		must(t, w.put(api.Pair{K: "on", V: some(int(b.Meta().Tx % 50))}))
		p := w.commit()
		wantWhole(t, d, b)
		then := allOf(t, d, b)
		must(t, d.Crash(nil))
		b = opened(t, d)
		wantState(t, b, p.state)
		wantPairs(t, d, b, then)
		begun(t, b)
		must(t, b.Limit(1))
		want(t, "Commit", b.Commit(), api.ErrDown)
		must(t, d.Crash(slices.Repeat([]int{64}, len(d.Unsynced()))))
		b = opened(t, d)
		wantState(t, b, p.state)
		wantWhole(t, d, b)
	}
}

// A commit that is cut again and again, its meta torn at each byte by turns, leaves what was committed ahead.
func TestCutAgainAndAgain(t *testing.T) {
	for _, s := range scenes(t) {
		d := copied(t, s.d)
		before := opened(t, d)
		wanted := stateOf(before)
		now := allOf(t, d, before)
		for kept := range 64 {
			w := &twin{t: t, d: d, b: opened(t, d)}
			w.begin(wanted.meta.Tx)
			s.change(w)
			must(t, w.put(api.Pair{K: keyOf(kept), V: some(kept % 61)}))
			p, room := w.plan()
			if !room {
				continue
			}
			must(t, w.b.Limit(p.ops()-1))
			want(t, "Commit", w.b.Commit(), api.ErrDown)
			must(t, d.Crash([]int{kept * 37 % 64}))
			b := opened(t, d)
			wantState(t, b, wanted)
			wantPairs(t, d, b, now)
			wantWhole(t, d, b)
		}
		s.goOn(t, d, opened(t, d))
	}
}
