package tree_test

import (
	"fmt"
	"math"
	"reflect"
	"slices"
	"strings"
	"testing"

	"bazaar/api"
	"bazaar/disk"
	"bazaar/page"
	"bazaar/tree"
)

// P7.1: Open.

// wantRefused asks Open for an error, and no work.
func wantRefused(t *testing.T, root uint32, a api.Alloc, tx uint64, want api.Errno) {
	t.Helper()
	w, e := tree.Open(blank(t, 8), root, a, tx, 4)
	if (w != nil) != (want == api.OK) || e != want {
		t.Errorf("Open(%d, %v, %d): %v, %d, want %d", root, a, tx, w, e, want)
	}
}

func TestOpen(t *testing.T) {
	for _, oldest := range []uint64{0, 1, 4, 5, 6, math.MaxUint64} {
		a := of(6, 8, api.Spare{Page: 3, Tx: 9})
		w, e := tree.Open(blank(t, 8), 5, a, 5, oldest)
		if e != api.OK || w == nil {
			t.Fatal(oldest, e)
		}
		wantState(t, w, state{Root: 5, Alloc: a})
	}
}

func TestOpenOfNoDisk(t *testing.T) {
	for _, root := range []uint32{0, 1, 2, 6} {
		for _, a := range []api.Alloc{{}, of(6, 8)} {
			for _, tx := range []uint64{0, 1} {
				if w, e := tree.Open(nil, root, a, tx, 4); w != nil || e != api.ErrNil {
					t.Errorf("%v, %d", w, e)
				}
			}
		}
	}
}

func TestOpenOfAllocs(t *testing.T) {
	for _, a := range []api.Alloc{of(2, 2), of(2, 16384), of(16384, 16384), of(6, 8, spares(2, 4, 1)...), of(6000, 6000, spares(2, 4096, 1)...)} {
		wantRefused(t, 0, a, 5, api.OK)
	}
	for _, a := range []api.Alloc{
		{}, of(0, 8), of(1, 8), of(8, 7), of(2, 1), of(2, 0), of(2, 16385), of(16385, 16385), of(math.MaxUint32, math.MaxUint32),
		of(6, 8, spares(1, 1, 1)...), of(6, 8, spares(0, 3, 1)...), of(6, 8, spares(2, 5, 1)...), of(6, 8, spares(2, 1, 0)...),
		of(6, 8, api.Spare{Page: 4, Tx: 1}, api.Spare{Page: 3, Tx: 1}), of(6, 8, api.Spare{Page: 4, Tx: 1}, api.Spare{Page: 4, Tx: 2}),
		of(6000, 6000, spares(2, 4097, 1)...),
	} {
		wantRefused(t, 0, a, 5, api.ErrArg)
	}
}

func TestOpenOfNumbers(t *testing.T) {
	for _, tx := range []uint64{1, 2, math.MaxUint64} {
		wantRefused(t, 0, of(6, 8), tx, api.OK)
	}
	wantRefused(t, 0, of(6, 8), 0, api.ErrArg)
	for _, root := range []uint32{0, 2, 3, 5} {
		wantRefused(t, root, of(6, 8), 5, api.OK)
	}
	for _, root := range []uint32{1, 6, 7, 8, 16384, math.MaxUint32} {
		wantRefused(t, root, of(6, 8), 5, api.ErrArg)
	}
	wantRefused(t, 16383, of(16384, 16384), 5, api.OK)
	// Below High 2 there is no page of a tree.
	wantRefused(t, 0, of(2, 8), 5, api.OK)
	wantRefused(t, 2, of(2, 8), 5, api.ErrArg)
}

// P7.1: what calls are refused for.

// told is what all calls that tell an error tell of a key and a value, in the order Get, Put, Delete, All.
func told(t *testing.T, w *tree.Work, key, value string) [4]api.Errno {
	t.Helper()
	v, is, get := w.Get(key)
	put := w.Put(api.Pair{K: key, V: value})
	was, del := w.Delete(key)
	l, all := w.All()
	if get != api.OK && (v != "" || is) || del != api.OK && was || all != api.OK && len(l) > 0 {
		t.Errorf("beside errors %d, %d, %d: %q, %v, %v, %v", get, del, all, v, is, was, l)
	}
	return [4]api.Errno{get, put, del, all}
}

// wantTold asks all calls for one error.
func wantTold(t *testing.T, w *tree.Work, want api.Errno) {
	t.Helper()
	for _, key := range []string{"a", "no such key", "", some(25)} {
		for _, n := range []int{0, 61} {
			if got := told(t, w, key, some(n)); got != [4]api.Errno{want, want, want, want} {
				t.Errorf("told of %q, %d bytes: %v, want %d", key, n, got, want)
			}
		}
	}
}

func TestNilWork(t *testing.T) {
	var w *tree.Work
	wantTold(t, w, api.ErrNil)
	wantState(t, w, state{})
}

func TestLengthsOfKeysAndValues(t *testing.T) {
	w := open(t, blank(t, 60), 0, of(2, 60))
	for _, n := range []int{1, 2, 23, 24} {
		for _, v := range []int{0, 1, 59, 60} {
			put(t, w, pair(some(n), v))
			wantState(t, w, stateOf(w))
			if value, is, e := w.Get(some(n)); value != some(v) || !is || e != api.OK {
				t.Errorf("a key of %d bytes, a value of %d: %q, %v, %d", n, v, value, is, e)
			}
		}
	}
	for _, n := range []int{1, 24} {
		remove(t, w, some(n))
	}
	wantPairs(t, w, []api.Pair{pair(some(2), 60), pair(some(23), 60)})
}

func TestErrKey(t *testing.T) {
	d := planted(t, 60, map[uint32]api.Node{2: leaf(1, "a", "b")})
	// Ahead of what a page, or the want of one, would tell.
	for _, w := range []*tree.Work{open(t, d, 2, of(3, 60)), open(t, d, 2, of(3, 3)), open(t, d, 9, of(10, 60)), open(t, d, 0, of(2, 2))} {
		before := stateOf(w)
		for _, n := range []int{0, 25, 26, 255, 256, 257, 280, 70000} {
			got := told(t, w, some(n), "")
			if got[0] != api.ErrKey || got[1] != api.ErrKey || got[2] != api.ErrKey {
				t.Errorf("a key of %d bytes: %v", n, got)
			}
		}
		for _, n := range []int{61, 62, 255, 256, 257, 316, 70000} {
			if e := w.Put(pair("a", n)); e != api.ErrKey {
				t.Errorf("a value of %d bytes: %d", n, e)
			}
		}
		wantState(t, w, before)
	}
	w := open(t, d, 2, of(3, 60))
	if e := w.Put(api.Pair{}); e != api.ErrKey {
		t.Error(e)
	}
	// It is not told again.
	wantPairs(t, w, leaf(1, "a", "b").Pairs)
	put(t, w, pair("c", 1))
	wantPairs(t, w, leaf(1, "a", "b", "c").Pairs)
}

// wrongPages is bytes of page 9 that are no tree's page, told by what they are.
func wrongPages(t *testing.T) map[string]string {
	good := pageOf(9, 3, leaf(1, "a", "b"))
	all := map[string]string{"nothing": strings.Repeat("\x00", api.PageSize)}
	for name, p := range map[string]api.Page{
		"a free one":             {Kind: api.PageFree, Id: 9, Tx: 3, Body: good.Body},
		"a chunk":                {Kind: api.PageFree, Id: 9, Tx: 3, Body: "\x00\x00\x00\x00\x00"},
		"another one":            {Kind: api.PageLeaf, Id: 8, Tx: 3, Body: good.Body},
		"no bytes":               {Kind: api.PageLeaf, Id: 9, Tx: 3},
		"a byte too many":        {Kind: api.PageLeaf, Id: 9, Tx: 3, Body: good.Body + "\x00"},
		"a byte too few":         {Kind: api.PageLeaf, Id: 9, Tx: 3, Body: good.Body[:len(good.Body)-1]},
		"keys that do not rise":  {Kind: api.PageLeaf, Id: 9, Tx: 3, Body: body(leaf(1, "b", "a"))},
		"a key of 25 bytes":      {Kind: api.PageLeaf, Id: 9, Tx: 3, Body: body(leaf(1, some(25)))},
		"a value of 61 bytes":    {Kind: api.PageLeaf, Id: 9, Tx: 3, Body: body(leaf(61, "a"))},
		"a leaf told a branch":   {Kind: api.PageBranch, Id: 9, Tx: 3, Body: good.Body},
		"a branch told a leaf":   {Kind: api.PageLeaf, Id: 9, Tx: 3, Body: body(branch(ids(2, 3), "m"))},
		"a branch of no kids":    {Kind: api.PageBranch, Id: 9, Tx: 3, Body: "\x00"},
		"a branch of the page 0": {Kind: api.PageBranch, Id: 9, Tx: 3, Body: body(branch(ids(0)))},
		"a branch of the page 1": {Kind: api.PageBranch, Id: 9, Tx: 3, Body: body(branch(ids(2, 1), "m"))},
		"a kid past all pages":   {Kind: api.PageBranch, Id: 9, Tx: 3, Body: body(branch(ids(16384)))},
	} {
		s, e := page.Encode(p)
		if e != api.OK {
			t.Fatal(name, e)
		}
		all[name] = s
	}
	s, _ := page.Encode(good)
	all["one changed byte"] = s[:20] + "x" + s[21:]
	return all
}

// wantTorn asks Get, Put, Delete and All of works for ErrTree of this key, for nothing to be changed, and for Put and Delete to be told from then on.
func wantTorn(t *testing.T, name, key string, work func() *tree.Work) {
	t.Helper()
	w := work()
	before := stateOf(w)
	for range 2 {
		if v, is, e := w.Get(key); v != "" || is || e != api.ErrTree {
			t.Errorf("%s: Get: %q, %v, %d", name, v, is, e)
		}
		if l, e := w.All(); len(l) > 0 || e != api.ErrTree {
			t.Errorf("%s: All: %v, %d", name, l, e)
		}
	}
	if e := w.Put(pair(key, 1)); e != api.ErrTree {
		t.Errorf("%s: Put: %d", name, e)
	}
	wantTold(t, w, api.ErrTree)
	wantState(t, w, before)
	w = work()
	if was, e := w.Delete(key); was || e != api.ErrTree {
		t.Errorf("%s: Delete: %v, %d", name, was, e)
	}
	wantTold(t, w, api.ErrTree)
	wantState(t, w, before)
}

func TestRootThatIsNoPage(t *testing.T) {
	d := blank(t, 60)
	for name, bytes := range wrongPages(t) {
		for i := range api.Sectors {
			d.Write(9*api.Sectors+i, bytes[i*api.SectorSize:(i+1)*api.SectorSize])
		}
		wantTorn(t, name, "a", func() *tree.Work { return open(t, d, 9, of(10, 60)) })
		// Told ahead of the want of pages.
		wantTorn(t, name+", full", "a", func() *tree.Work { return open(t, d, 9, of(10, 10)) })
	}
}

func TestRootPastTheDisk(t *testing.T) {
	d := blank(t, 60)
	for _, root := range []uint32{60, 61, 16383} {
		wantTorn(t, fmt.Sprint(root), "a", func() *tree.Work { return open(t, d, root, of(16384, 16384)) })
	}
}

func TestKidThatIsNoPage(t *testing.T) {
	d := planted(t, 60, map[uint32]api.Node{2: branch(ids(3, 9, 4), "g", "p"), 3: leaf(20, words("abcdef")...), 4: leaf(20, words("pqrst")...)})
	work := func() *tree.Work { return open(t, d, 2, of(10, 60)) }
	for name, bytes := range wrongPages(t) {
		for i := range api.Sectors {
			d.Write(9*api.Sectors+i, bytes[i*api.SectorSize:(i+1)*api.SectorSize])
		}
		for _, key := range []string{"g", "h", "o.."} {
			wantTorn(t, name, key, work)
		}
		// Only pages that are needed are asked for.
		w := work()
		if v, is, e := w.Get("b"); v != some(20) || !is || e != api.OK {
			t.Errorf("%s: Get: %q, %v, %d", name, v, is, e)
		}
		if _, e := w.All(); e != api.ErrTree {
			t.Errorf("%s: All: %d", name, e)
		}
		put(t, w, pair("q", 2))
		remove(t, w, "a")
		if was, e := w.Delete("x"); was || e != api.OK {
			t.Errorf("%s: Delete: %v, %d", name, was, e)
		}
	}
}

func TestNeighbourThatIsNoPage(t *testing.T) {
	for _, high := range []uint32{10, 60} {
		for name, kids := range map[string][]uint32{"behind": ids(3, 9, 4), "ahead": ids(4, 9, 3)} {
			keys := map[string]string{"behind": "a", "ahead": "q"}
			nodes := map[uint32]api.Node{2: branch(kids, "g", "p"), 3: leaf(20, keys[name], keys[name]+"x"), 4: leaf(20, "b", "c", "d")}
			if name == "behind" {
				nodes[4] = leaf(20, "s", "t", "u")
			}
			d := planted(t, 60, nodes)
			// Of an alloc without pages, too: what a page tells is told first.
			w := open(t, d, 2, of(10, high))
			before := stateOf(w)
			if was, e := w.Delete(keys[name]); was || e != api.ErrTree {
				t.Errorf("%s, %d: %v, %d", name, high, was, e)
			}
			wantTold(t, w, api.ErrTree)
			wantState(t, w, before)
			// It is not needed by a key that is not there, nor by one that is put.
			w = open(t, d, 2, of(10, 60))
			if was, e := w.Delete(keys[name] + "y"); was || e != api.OK {
				t.Errorf("%s: %v, %d", name, was, e)
			}
			put(t, w, pair(keys[name], 0))
		}
	}
}

func TestErrTreeIsNotToldAgainByGetAndAll(t *testing.T) {
	d := planted(t, 60, map[uint32]api.Node{2: branch(ids(3, 9), "m"), 3: leaf(20, words("abcdef")...)})
	w := open(t, d, 2, of(10, 60))
	if _, e := w.All(); e != api.ErrTree {
		t.Error(e)
	}
	if _, _, e := w.Get("m"); e != api.ErrTree {
		t.Error(e)
	}
	put(t, w, pair("b", 1))
	write(t, d, pageOf(9, 3, leaf(20, words("mnopqr")...)))
	if _, is, e := w.Get("m"); !is || e != api.OK {
		t.Error(is, e)
	}
	if l, e := w.All(); len(l) != 12 || e != api.OK {
		t.Error(l, e)
	}
}

func TestErrTreeIsToldAgainByPutAndDelete(t *testing.T) {
	for _, byPut := range []bool{true, false} {
		d := planted(t, 60, map[uint32]api.Node{2: branch(ids(3, 9), "m"), 3: leaf(20, words("abcdef")...)})
		w := open(t, d, 2, of(10, 60))
		before := stateOf(w)
		if byPut && w.Put(pair("n", 1)) != api.ErrTree {
			t.Error("Put")
		}
		if _, e := w.Delete("n"); e != api.ErrTree {
			t.Error("Delete", e)
		}
		// Even where the page is right then.
		write(t, d, pageOf(9, 3, leaf(20, words("mnopqr")...)))
		wantTold(t, w, api.ErrTree)
		wantState(t, w, before)
	}
}

// chain is branches of one kid each, one above the other, and a leaf: n pages, from page 2 on.
func chain(n int, last api.Node) map[uint32]api.Node {
	nodes := map[uint32]api.Node{}
	for i := range n - 1 {
		nodes[uint32(2+i)] = branch(ids(uint32(3 + i)))
	}
	nodes[uint32(1+n)] = last
	return nodes
}

func TestPagesAboveEachOther(t *testing.T) {
	for _, n := range []int{1, 2, 63, 64} {
		d := planted(t, 300, chain(n, leaf(20, "a", "b")))
		w := open(t, d, 2, of(uint32(2+n), 300))
		wantPairs(t, w, leaf(20, "a", "b").Pairs)
		put(t, w, pair("c", 20))
		wantPairs(t, w, leaf(20, "a", "b", "c").Pairs)
		wantWhole(t, d, w, 5)
		// A root of one kid is that kid, again and again; but only where a pair is deleted.
		if len(w.Pages()) != n || len(w.Gone()) != n {
			t.Errorf("%d above each other: %d pages, %d gone", n, len(w.Pages()), len(w.Gone()))
		}
		remove(t, w, "a")
		wantShape(t, d, w, "(b c)")
		wantWhole(t, d, w, 5)
	}
	for _, n := range []int{65, 66, 200} {
		d := planted(t, 300, chain(n, leaf(20, "a", "b")))
		for _, most := range []uint32{uint32(2 + n), 300} {
			wantTorn(t, fmt.Sprint(n), "a", func() *tree.Work { return open(t, d, 2, of(uint32(2+n), most)) })
		}
	}
}

// below is n branches one above the other, from page 100 on, each of 237 bytes; the last one's first kid is the page 2, the other kids are the page 299, which is none.
func below(n int, nodes map[uint32]api.Node) map[uint32]api.Node {
	for i := range n {
		var keys []string
		for _, k := range words("bcdefghi") {
			keys = append(keys, pad(string([]byte{byte(250 - i)})+k, 24))
		}
		kid := uint32(101 + i)
		if i == n-1 {
			kid = 2
		}
		nodes[uint32(100+i)] = branch(append(ids(kid), slices.Repeat(ids(299), 8)...), keys...)
	}
	return nodes
}

func TestPutThatWouldLetMoreThan64StandAboveEachOther(t *testing.T) {
	// Each page of the way is full, and split, and there is a new root.
	full := func(n int) *disk.Disk {
		last := withValue(leaf(57, "aa", "ab", "ac", "ad"), 3, 49)
		return planted(t, 300, below(n-1, map[uint32]api.Node{2: last}))
	}
	for _, n := range []int{62, 63} {
		w := open(t, full(n), 100, of(163, 300))
		put(t, w, pair("ae", 60))
		if _, is, e := w.Get("ae"); !is || e != api.OK {
			t.Errorf("%d: %v, %d", n, is, e)
		}
		if len(w.Gone()) != n || len(w.Pages()) != 2*n+1 {
			t.Errorf("%d: %d pages, %d gone", n, len(w.Pages()), len(w.Gone()))
		}
	}
	// It is told ahead of the want of pages.
	for _, most := range []uint32{163, 200, 300} {
		w := open(t, full(64), 100, of(163, most))
		before := stateOf(w)
		if e := w.Put(pair("ae", 60)); e != api.ErrTree {
			t.Errorf("%d pages: %d", most, e)
		}
		wantTold(t, w, api.ErrTree)
		wantState(t, w, before)
	}
}

func TestDeleteThatWouldLetMoreThan64StandAboveEachOther(t *testing.T) {
	for _, n := range []int{60, 61, 62} {
		nodes := below(n, keyed(append(keys24("cdefghi"), "j", "k", "l")...))
		w := open(t, planted(t, 300, nodes), 100, of(163, 300))
		before := stateOf(w)
		was, e := w.Delete(pad("a2", 24))
		if n == 62 {
			if was || e != api.ErrTree {
				t.Errorf("%d: %v, %d", n, was, e)
			}
			wantTold(t, w, api.ErrTree)
			wantState(t, w, before)
			continue
		}
		if _, is, all := w.Get(pad("a1", 24)); !was || e != api.OK || !is || all != api.OK {
			t.Errorf("%d: %v, %d, %v, %d", n, was, e, is, all)
		}
		if len(w.Gone()) != n+3 || len(w.Pages()) != 2*n+5 {
			t.Errorf("%d: %d pages, %d gone", n, len(w.Pages()), len(w.Gone()))
		}
	}
}

func TestPagesThatAreEachOthersKids(t *testing.T) {
	for name, nodes := range map[string]map[uint32]api.Node{
		"its own kid":       {2: branch(ids(2))},
		"its own two kids":  {2: branch(ids(2, 2), "m")},
		"its own many kids": {2: branch(slices.Repeat(ids(2), 9), words("bcdefghi")...)},
		"each other's":      {2: branch(ids(3)), 3: branch(ids(2))},
		"each other's, two": {2: branch(ids(3, 3), "m"), 3: branch(ids(2, 2), "m")},
		"beside a leaf":     {2: branch(ids(3, 3), "m"), 3: branch(ids(4, 2, 2), "c", "m"), 4: leaf(20, "c")},
	} {
		for _, most := range []uint32{5, 60} {
			wantTorn(t, name, "g", func() *tree.Work { return open(t, planted(t, 60, nodes), 2, of(5, most)) })
		}
	}
}

// twofold is n branches one above the other, each with the next one twice, and a leaf.
func twofold(n int, last api.Node) map[uint32]api.Node {
	nodes := chain(n, last)
	for i := range n - 1 {
		nodes[uint32(2+i)] = branch(ids(uint32(3+i), uint32(3+i)), "m")
	}
	return nodes
}

func TestAllOfSharedKidsEnds(t *testing.T) {
	d := planted(t, 300, twofold(64, api.Node{}))
	wantPairs(t, open(t, d, 2, of(66, 300)), nil)
	wantPairs(t, open(t, planted(t, 300, twofold(3, leaf(1, "a"))), 2, of(5, 300)), slices.Repeat(leaf(1, "a").Pairs, 4))
	// A page that is wrong is found, though there were pairs without number ahead of it.
	for _, nodes := range []map[uint32]api.Node{twofold(65, api.Node{}), twofold(65, leaf(1, "a")), twofold(200, leaf(1, "a"))} {
		if l, e := open(t, planted(t, 300, nodes), 2, of(299, 300)).All(); len(l) > 0 || e != api.ErrTree {
			t.Errorf("%d pairs, %d", len(l), e)
		}
	}
	nodes := twofold(60, leaf(1, "a"))
	nodes[2] = branch(ids(3, 3, 200), "m", "n")
	if l, e := open(t, planted(t, 300, nodes), 2, of(299, 300)).All(); len(l) > 0 || e != api.ErrTree {
		t.Errorf("%d pairs, %d", len(l), e)
	}
	// A page that is seen once on a short way, and once on one that is too long.
	nodes = chain(64, api.Node{})
	nodes[2] = branch(ids(5, 3), "m")
	wantPairs(t, open(t, planted(t, 300, nodes), 2, of(299, 300)), nil)
	nodes = chain(65, api.Node{})
	nodes[2] = branch(ids(5, 3), "m")
	if l, e := open(t, planted(t, 300, nodes), 2, of(299, 300)).All(); len(l) > 0 || e != api.ErrTree {
		t.Errorf("%d pairs, %d", len(l), e)
	}
}

func TestNodesThatAreNoTree(t *testing.T) {
	for name, nodes := range map[string]map[uint32]api.Node{
		"leaves whose keys do not rise":  {2: branch(ids(3, 4), "m"), 3: leaf(20, "a", "z"), 4: leaf(20, "c")},
		"a leaf beside a branch":         {2: branch(ids(3, 4), "m"), 3: leaf(20, "a", "b"), 4: branch(ids(5)), 5: leaf(20, "n")},
		"a branch whose keys go astray":  {2: branch(ids(3, 4), "m"), 3: branch(ids(5)), 4: branch(ids(6, 7), "c"), 5: leaf(1, "a"), 6: leaf(1, "b"), 7: leaf(1, "c")},
		"a neighbour of the same page":   {2: branch(ids(3, 3), "m"), 3: leaf(20, "a", "b")},
		"a key that has no place then":   {2: branch(ids(3, 4, 5), "g", "p"), 3: leaf(50, "a", "b"), 4: leaf(60, "x", "y", "z"), 5: leaf(60, "q")},
		"a leaf that is too high, ahead": {2: branch(ids(4, 3), "a"), 3: leaf(20, "a", "b"), 4: branch(ids(5)), 5: leaf(20, "0")},
	} {
		w := open(t, planted(t, 60, nodes), 2, of(10, 60))
		before := stateOf(w)
		if was, e := w.Delete("a"); was || e != api.ErrTree {
			t.Errorf("%s: %v, %d", name, was, e)
		}
		wantTold(t, w, api.ErrTree)
		wantState(t, w, before)
	}
	// A leaf is split, but its key has no place in the branch.
	w := open(t, planted(t, 60, map[uint32]api.Node{2: branch(ids(3, 4), "m"), 3: leaf(60, "x", "y", "z"), 4: leaf(20, "n")}), 2, of(10, 60))
	before := stateOf(w)
	if e := w.Put(pair("a", 60)); e != api.ErrTree {
		t.Error(e)
	}
	wantTold(t, w, api.ErrTree)
	wantState(t, w, before)
}

// wantFull asks a call for ErrFull, for nothing to be changed, and for all calls to tell it then.
func wantFull(t *testing.T, w *tree.Work, call func() api.Errno) {
	t.Helper()
	before := stateOf(w)
	if e := call(); e != api.ErrFull {
		t.Errorf("%d, want ErrFull", e)
	}
	wantTold(t, w, api.ErrFull)
	wantState(t, w, before)
}

// wantPages asks for a call to need so many pages, and no fewer.
func wantPages(t *testing.T, nodes map[uint32]api.Node, high uint32, n int, call func(w *tree.Work) api.Errno) {
	t.Helper()
	d := planted(t, 60, nodes)
	for less := 1; less <= n; less++ {
		w := open(t, d, 2, of(high, high+uint32(n-less)))
		wantFull(t, w, func() api.Errno { return call(w) })
		// Spares that somebody may still read can't be taken.
		l := spares(high, n-less, 4)
		l = append(l, spares(high+uint32(n-less), 20, 5)...)
		w = open(t, d, 2, of(high+uint32(len(l)), high+uint32(len(l)), l...))
		wantFull(t, w, func() api.Errno { return call(w) })
	}
	for _, a := range []api.Alloc{of(high, high+uint32(n)), of(high+uint32(n), high+uint32(n), spares(high, n, 4)...)} {
		w := open(t, d, 2, a)
		if e := call(w); e != api.OK {
			t.Errorf("with %d pages: %d", n, e)
		}
		wantWhole(t, d, w, 5)
	}
}

// putting, deleting are calls of one key.
func putting(p api.Pair) func(w *tree.Work) api.Errno {
	return func(w *tree.Work) api.Errno { return w.Put(p) }
}

func deleting(key string) func(w *tree.Work) api.Errno {
	return func(w *tree.Work) api.Errno {
		was, e := w.Delete(key)
		if was != (e == api.OK) {
			return -1
		}
		return e
	}
}

func TestPagesRunOut(t *testing.T) {
	empty := open(t, blank(t, 60), 0, of(2, 2))
	wantFull(t, empty, func() api.Errno { return empty.Put(pair("a", 1)) })
	one := func() map[uint32]api.Node { return map[uint32]api.Node{2: leaf(20, "a")} }
	wantPages(t, one(), 3, 1, putting(pair("b", 1)))
	wantPages(t, one(), 3, 1, putting(pair("a", 20)))
	// The leaf is copied ahead of being needed no more.
	wantPages(t, one(), 3, 1, deleting("a"))
	// A leaf is split: its copy, the right one, a new root.
	wantPages(t, map[uint32]api.Node{2: leaf(60, "a", "b", "c")}, 3, 3, putting(pair("d", 60)))
	two := func(n int) map[uint32]api.Node {
		return map[uint32]api.Node{2: branch(ids(3, 4), "m"), 3: leaf(n, "a", "b", "c"), 4: leaf(n, "m", "n", "o")}
	}
	wantPages(t, two(20), 5, 2, putting(pair("b", 1)))
	wantPages(t, two(60), 5, 3, putting(pair("d", 60)))
	// The node behind is let go; the one ahead is copied; so are both, where they do not fit.
	wantPages(t, two(17), 5, 2, deleting("a"))
	wantPages(t, two(17), 5, 3, deleting("n"))
	nodes := two(60)
	nodes[3] = leaf(50, "a", "b")
	wantPages(t, nodes, 5, 3, deleting("a"))
}

func TestNoPageIsNeeded(t *testing.T) {
	d := planted(t, 60, map[uint32]api.Node{2: leaf(20, "a", "c")})
	w := open(t, d, 2, of(3, 3))
	before := stateOf(w)
	for range 2 {
		wantPairs(t, w, leaf(20, "a", "c").Pairs)
		for _, key := range []string{"0", "b", "d"} {
			if was, e := w.Delete(key); was || e != api.OK {
				t.Errorf("%q: %v, %d", key, was, e)
			}
		}
		wantState(t, w, before)
	}
	// Pages of the work need no copies, but a new one is needed where a leaf is split.
	w = open(t, d, 2, of(3, 4))
	put(t, w, pair("b", 20))
	put(t, w, pair("b", 1))
	remove(t, w, "a")
	put(t, w, pair("d", 60))
	put(t, w, pair("e", 60))
	put(t, w, pair("f", 60))
	if len(w.Pages()) != 1 || w.Alloc().High != 4 {
		t.Error(w.Pages(), w.Alloc())
	}
	wantFull(t, w, func() api.Errno { return w.Put(pair("g", 60)) })
}

func TestTooManySpares(t *testing.T) {
	for _, n := range []int{4094, 4095, 4096} {
		// Somebody may still read them all.
		w := open(t, blank(t, 60), 0, of(5000, 5010, spares(2, n, 5)...))
		put(t, w, pair("a", 1))
		if n == 4096 {
			wantFull(t, w, func() api.Errno { return deleting("a")(w) })
			continue
		}
		remove(t, w, "a")
		want := append(spares(2, n, 5), api.Spare{Page: 5000, Tx: 5})
		wantState(t, w, state{Alloc: of(5001, 5010, want...)})
		put(t, w, pair("a", 1))
		if was, e := w.Delete("a"); was != (n == 4094) || was != (e == api.OK) {
			t.Errorf("%d: %v, %d", n, was, e)
		}
	}
	// One is taken ahead of the one that is given.
	w := open(t, blank(t, 60), 0, of(5000, 5000, append(spares(2, 4095, 5), api.Spare{Page: 4999, Tx: 4})...))
	put(t, w, pair("a", 1))
	remove(t, w, "a")
	wantState(t, w, state{Alloc: of(5000, 5000, append(spares(2, 4095, 5), api.Spare{Page: 4999, Tx: 5})...)})
}

func TestWhichSparesAreTaken(t *testing.T) {
	for oldest := range uint64(8) {
		a := of(6, 9, api.Spare{Page: 2, Tx: 6}, api.Spare{Page: 3, Tx: 4}, api.Spare{Page: 5, Tx: 3})
		w, e := tree.Open(blank(t, 60), 0, a, 7, oldest)
		if e != api.OK {
			t.Fatal(e)
		}
		put(t, w, pair("a", 1))
		want := map[uint64]uint32{0: 6, 1: 6, 2: 6, 3: 5, 4: 3, 5: 3, 6: 2, 7: 2}[oldest]
		left := slices.DeleteFunc(slices.Clone(a.Spare), func(x api.Spare) bool { return x.Page == want })
		if w.Root() != want || !slices.Equal(w.Alloc().Spare, left) {
			t.Errorf("as of %d: page %d, want %d, %v", oldest, w.Root(), want, w.Alloc())
		}
	}
	// What a work gives may be taken by itself, if nobody may read what is older than it.
	for _, oldest := range []uint64{4, 5, 6} {
		w, _ := tree.Open(blank(t, 60), 0, of(2, 3), 5, oldest)
		put(t, w, pair("a", 1))
		remove(t, w, "a")
		if e := w.Put(pair("b", 1)); (e == api.OK) != (oldest >= 5) {
			t.Errorf("as of %d: %d", oldest, e)
		}
	}
}

// P7.2: by hand.

func TestTheExample(t *testing.T) {
	w := open(t, blank(t, 60), 0, of(2, 60))
	for i, k := range []string{"b", "a", "c"} {
		put(t, w, pair(k, i))
	}
	wantPairs(t, w, []api.Pair{pair("a", 1), pair("b", 0), pair("c", 2)})
	remove(t, w, "b")
	wantPairs(t, w, []api.Pair{pair("a", 1), pair("c", 2)})
	if v, is, e := w.Get("b"); v != "" || is || e != api.OK {
		t.Error(v, is, e)
	}
}

func TestEmptyTree(t *testing.T) {
	w := open(t, blank(t, 60), 0, of(2, 60))
	before := stateOf(w)
	wantPairs(t, w, nil)
	if v, is, e := w.Get("a"); v != "" || is || e != api.OK {
		t.Error(v, is, e)
	}
	if was, e := w.Delete("a"); was || e != api.OK {
		t.Error(was, e)
	}
	wantState(t, w, before)
}

func TestTreeOfOnePair(t *testing.T) {
	w := open(t, blank(t, 60), 0, of(2, 60))
	put(t, w, api.Pair{K: "a", V: "xy"})
	made := []api.Page{{Kind: api.PageLeaf, Id: 2, Tx: 5, Body: "\x01\x01a\x02xy"}}
	wantState(t, w, state{Root: 2, Alloc: of(3, 60), Pages: made})
	wantPairs(t, w, []api.Pair{{K: "a", V: "xy"}})
	for key, want := range map[string]bool{"a": true, "A": false, "b": false, "aa": false, "\x00": false, "\xff": false} {
		if v, is, e := w.Get(key); is != want || (v == "xy") != want || e != api.OK {
			t.Errorf("Get(%q): %q, %v, %d", key, v, is, e)
		}
		if was, e := w.Delete(key + "0"); was || e != api.OK {
			t.Errorf("Delete(%q): %v, %d", key+"0", was, e)
		}
	}
	remove(t, w, "a")
	wantState(t, w, state{Alloc: of(3, 60, api.Spare{Page: 2, Tx: 5})})
	wantPairs(t, w, nil)
	if was, e := w.Delete("a"); was || e != api.OK {
		t.Error(was, e)
	}
}

func TestPutTwice(t *testing.T) {
	d := planted(t, 60, map[uint32]api.Node{2: leaf(20, "a", "b")})
	w := open(t, d, 2, of(3, 60))
	// A pair that is there is put, too: its page is copied.
	for range 2 {
		put(t, w, pair("a", 20))
		wantState(t, w, state{Root: 3, Alloc: of(4, 60), Gone: ids(2), Pages: []api.Page{pageOf(3, 5, leaf(20, "a", "b"))}})
	}
	put(t, w, api.Pair{K: "a"})
	put(t, w, api.Pair{K: "b", V: "new"})
	wantPairs(t, w, []api.Pair{{K: "a"}, {K: "b", V: "new"}})
	if len(w.Pages()) != 1 || w.Pages()[0].Id != 3 || len(w.Alloc().Spare) != 0 {
		t.Error(w.Pages(), w.Alloc())
	}
}

func TestCopies(t *testing.T) {
	nodes := map[uint32]api.Node{2: branch(ids(3, 4, 5), "g", "p"), 3: leaf(20, words("abcd")...), 4: leaf(20, words("ghij")...), 5: leaf(20, words("pqrs")...)}
	d := planted(t, 60, nodes)
	w := open(t, d, 2, of(6, 60))
	held := bytesOf(d)
	put(t, w, pair("h", 50))
	// Both pages of the way are copied; in which order is free.
	if !slices.Equal(w.Gone(), ids(2, 4)) || len(w.Pages()) != 2 || w.Pages()[0].Id != 6 || w.Pages()[1].Id != 7 || w.Alloc().High != 8 {
		t.Error(w.Gone(), w.Pages(), w.Alloc())
	}
	wantShape(t, d, w, "[(a b c d) g (g h i j) p (p q r s)]")
	before := w.Root()
	put(t, w, pair("i", 1))
	remove(t, w, "g")
	if !slices.Equal(w.Gone(), ids(2, 4)) || len(w.Pages()) != 2 || w.Root() != before || w.Alloc().High != 8 {
		t.Error(w.Gone(), w.Pages(), w.Root())
	}
	put(t, w, pair("t", 1))
	if !slices.Equal(w.Gone(), ids(2, 4, 5)) || len(w.Pages()) != 3 || w.Pages()[2].Id != 8 || w.Root() != before {
		t.Error(w.Gone(), w.Pages(), w.Root())
	}
	wantShape(t, d, w, "[(a b c d) g (h i j) p (p q r s t)]")
	wantWhole(t, d, w, 5)
	wantUnwritten(t, d, held)
	wantShape(t, d, open(t, d, 2, of(6, 60)), "[(a b c d) g (g h i j) p (p q r s)]")
}

func TestPagesOfTheSameTransactionOnTheDisk(t *testing.T) {
	// A work's pages are those it has made, not all that carry its transaction.
	d := blank(t, 60)
	write(t, d, pageOf(2, 5, leaf(20, "a", "b")))
	w := open(t, d, 2, of(3, 60))
	put(t, w, pair("c", 20))
	wantState(t, w, state{Root: 3, Alloc: of(4, 60), Gone: ids(2), Pages: []api.Page{pageOf(3, 5, leaf(20, "a", "b", "c"))}})
}

func TestFirstSplitOfALeaf(t *testing.T) {
	d := blank(t, 60)
	w := open(t, d, 0, of(2, 60))
	// 1 + 3 * 63 + 48 is 238.
	for _, k := range []string{"a", "b", "c"} {
		put(t, w, pair(k, 60))
	}
	put(t, w, pair("d", 44))
	wantShape(t, d, w, "(a b c d)")
	if len(w.Pages()) != 1 {
		t.Error(w.Pages())
	}
	put(t, w, pair("d", 45))
	wantShape(t, d, w, "[(a b) c (c d)]")
	if len(w.Pages()) != 3 || w.Alloc().High != 5 || len(w.Gone()) != 0 || len(w.Alloc().Spare) != 0 {
		t.Error(w.Pages(), w.Alloc(), w.Gone())
	}
	for _, p := range w.Pages() {
		if want := map[bool]int{true: api.PageBranch, false: api.PageLeaf}[p.Id == w.Root()]; p.Kind != want {
			t.Error(p)
		}
	}
	// The key of the right one is its first pair's, whole; of two cuts that are as good it is the first.
	w = open(t, d, 0, of(2, 60))
	for _, k := range words("abc") {
		put(t, w, pair(pad(k, 24), 60))
	}
	wantShape(t, d, w, "[(a) b (b c)]")
	if k, _ := walked(t, d, w); !slices.Equal(k.node(w.Root()).Keys, []string{pad("b", 24)}) {
		t.Errorf("%q", k.node(w.Root()).Keys)
	}
}

// letters is leaves of three pairs each with values of n bytes, from page 3 on, their keys rising, and a branch in page 2 whose keys are theirs.
func letters(n, leaves int) map[uint32]api.Node {
	all := words("abcdefghijklmnopqrstuvwxyz")
	root := api.Node{}
	nodes := map[uint32]api.Node{}
	for i := range leaves {
		l := leaf(n)
		for _, k := range words("135") {
			l.Pairs = append(l.Pairs, pair(pad(all[i]+k, 24), n))
		}
		nodes[uint32(3+i)] = l
		root.Kids = append(root.Kids, uint32(3+i))
		if i > 0 {
			root.Keys = append(root.Keys, l.Pairs[0].K)
		}
	}
	nodes[2] = root
	return nodes
}

func TestFirstSplitOfABranch(t *testing.T) {
	// Of 9 kids and 8 keys of 24 bytes a branch has 237 bytes.
	d := planted(t, 60, letters(50, 9))
	w := open(t, d, 2, of(12, 60))
	put(t, w, pair(pad("c2", 24), 50))
	wantShape(t, d, w, "[[(a1 a3 a5) b1 (b1 b3 b5) c1 (c1 c2) c3 (c3 c5) d1 (d1 d3 d5)] e1 [(e1 e3 e5) f1 (f1 f3 f5) g1 (g1 g3 g5) h1 (h1 h3 h5) i1 (i1 i3 i5)]]")
	// Both of the way are copied; two right ones and the root are new.
	if !slices.Equal(w.Gone(), ids(2, 5)) || len(w.Pages()) != 5 || w.Alloc().High != 17 {
		t.Error(w.Gone(), len(w.Pages()), w.Alloc())
	}
	wantWhole(t, d, w, 5)
	// A branch of 8 kids takes one more, and is not split.
	d = planted(t, 60, letters(50, 8))
	w = open(t, d, 2, of(11, 60))
	put(t, w, pair(pad("h6", 24), 50))
	wantShape(t, d, w, "[(a1 a3 a5) b1 (b1 b3 b5) c1 (c1 c3 c5) d1 (d1 d3 d5) e1 (e1 e3 e5) f1 (f1 f3 f5) g1 (g1 g3 g5) h1 (h1 h3) h5 (h5 h6)]")
	wantWhole(t, d, w, 5)
}

// wantDeleted asks for what comes of a tree of which a key is deleted, and which pages are let go; so many are the work's then, and so many of them were given.
func wantDeleted(t *testing.T, nodes map[uint32]api.Node, key, shape string, gone []uint32, pages, given int) {
	t.Helper()
	d := planted(t, 60, nodes)
	held := bytesOf(d)
	w := open(t, d, 2, of(uint32(2+len(nodes)), 60))
	remove(t, w, key)
	wantShape(t, d, w, shape)
	if !slices.Equal(w.Gone(), gone) || len(w.Pages()) != pages || len(w.Alloc().Spare) != given {
		t.Errorf("%q: gone %v, %d pages, spares %v", key, w.Gone(), len(w.Pages()), w.Alloc().Spare)
	}
	wantWhole(t, d, w, 5)
	wantUnwritten(t, d, held)
}

// withValue is a leaf whose pair at a place has a value of n bytes.
func withValue(l api.Node, at, n int) api.Node {
	l.Pairs = slices.Clone(l.Pairs)
	l.Pairs[at].V = some(n)
	return l
}

// three is three leaves, and a branch in page 2.
func three(a, b, c api.Node) map[uint32]api.Node {
	return map[uint32]api.Node{2: branch(ids(3, 4, 5), "g", "p"), 3: a, 4: b, 5: c}
}

// of20 is a leaf of keys of one letter, whose values have 20 bytes: each pair has 23.
func of20(s string) api.Node { return leaf(20, words(s)...) }

func TestNodeOfJust60Bytes(t *testing.T) {
	wantDeleted(t, three(withValue(of20("abcd"), 1, 10), of20("ghijk"), of20("pqrst")), "a",
		"[(b c d) g (g h i j k) p (p q r s t)]", ids(2, 3), 2, 0)
	// One byte less, and it is joined with the next one, which is let go.
	wantDeleted(t, three(withValue(of20("abcd"), 1, 9), of20("ghijk"), of20("pqrst")), "a",
		"[(b c d g h i j k) p (p q r s t)]", ids(2, 3, 4), 2, 0)
	wantDeleted(t, three(of20("abcd"), of20("ghijk"), withValue(of20("pqrs"), 1, 10)), "p",
		"[(a b c d) g (g h i j k) p (q r s)]", ids(2, 5), 2, 0)
}

func TestSmallNodeWithANeighbourBehind(t *testing.T) {
	wantDeleted(t, three(of20("abc"), of20("ghi"), of20("pqr")), "b", "[(a c g h i) p (p q r)]", ids(2, 3, 4), 2, 0)
	// That between is joined with the next one, not with the one ahead.
	wantDeleted(t, three(of20("abc"), of20("ghi"), of20("pqr")), "h", "[(a b c) g (g i p q r)]", ids(2, 4, 5), 2, 0)
	// A leaf without pairs is a small one, too.
	wantDeleted(t, three(of20("abc"), of20("h"), of20("pqr")), "h", "[(a b c) g (p q r)]", ids(2, 4, 5), 2, 0)
}

func TestSmallNodeThatIsTheLastOne(t *testing.T) {
	// The one ahead is copied, the copy of the last one is given.
	wantDeleted(t, three(of20("abc"), of20("ghi"), of20("pqr")), "q", "[(a b c) g (g h i p r)]", ids(2, 4, 5), 2, 1)
	wantDeleted(t, three(of20("abc"), of20("ghi"), of20("p")), "p", "[(a b c) g (g h i)]", ids(2, 4, 5), 2, 1)
}

func TestWhatIsJoinedAndFits(t *testing.T) {
	// 1 + 24 + 23 + 3 * 63 is 237.
	wantDeleted(t, three(withValue(of20("abc"), 0, 21), leaf(60, words("ghi")...), of20("pqrst")), "b",
		"[(a c g h i) p (p q r s t)]", ids(2, 3, 4), 2, 0)
	wantDeleted(t, three(of20("abcde"), leaf(60, words("ghi")...), withValue(of20("pqr"), 0, 21)), "q",
		"[(a b c d e) g (g h i p r)]", ids(2, 4, 5), 2, 1)
}

func TestWhatIsJoinedAndDoesNotFit(t *testing.T) {
	// One byte more: both are copies, with another key between.
	wantDeleted(t, three(withValue(of20("abc"), 0, 22), leaf(60, words("ghi")...), of20("pqrst")), "b",
		"[(a c g) h (h i) p (p q r s t)]", ids(2, 3, 4), 3, 0)
	wantDeleted(t, three(of20("abcde"), leaf(60, words("ghi")...), withValue(of20("pqr"), 0, 22)), "q",
		"[(a b c d e) g (g h) i (i p r)]", ids(2, 4, 5), 3, 0)
}

func TestSmallNodesOfTheWork(t *testing.T) {
	d := planted(t, 60, three(of20("abc"), of20("ghi"), of20("pqr")))
	w := open(t, d, 2, of(6, 60))
	for _, k := range []string{"a", "h", "q"} {
		put(t, w, pair(k, 21))
	}
	if len(w.Pages()) != 4 || !slices.Equal(w.Gone(), ids(2, 3, 4, 5)) {
		t.Error(w.Pages(), w.Gone())
	}
	// The right one is given, and so is the root, at last; the left one stays on its page.
	remove(t, w, "b")
	wantShape(t, d, w, "[(a c g h i) p (p q r)]")
	if len(w.Pages()) != 3 || len(w.Alloc().Spare) != 1 || w.Alloc().High != 10 {
		t.Error(w.Pages(), w.Alloc())
	}
	wantWhole(t, d, w, 5)
	remove(t, w, "r")
	wantShape(t, d, w, "(a c g h i p q)")
	if len(w.Pages()) != 1 || len(w.Alloc().Spare) != 3 || w.Alloc().High != 10 || len(w.Gone()) != 4 {
		t.Error(w.Pages(), w.Alloc())
	}
	wantWhole(t, d, w, 5)
	for _, x := range w.Alloc().Spare {
		if x.Tx != 5 {
			t.Error(x)
		}
	}
}

func TestPutJoinsNothing(t *testing.T) {
	d := planted(t, 60, three(of20("abc"), of20("ghi"), of20("pqr")))
	w := open(t, d, 2, of(6, 60))
	for _, k := range words("abcpqrghi") {
		put(t, w, pair(k, 0))
	}
	wantShape(t, d, w, "[(a b c) g (g h i) p (p q r)]")
	if len(w.Pages()) != 4 || len(w.Alloc().Spare) != 0 {
		t.Error(w.Pages(), w.Alloc())
	}
	// Nor does a key that is not there.
	for _, k := range words("dlz") {
		if was, e := w.Delete(k); was || e != api.OK {
			t.Error(was, e)
		}
	}
	wantShape(t, d, w, "[(a b c) g (g h i) p (p q r)]")
	remove(t, w, "a")
	wantShape(t, d, w, "[(b c g h i) p (p q r)]")
}

// keyed is leaves of one pair each, from page 4 on, of these keys, ahead of them a leaf of two pairs and one of three, and a branch in page 2.
// If the pair "a2" is deleted, the first two leaves are joined, and split again, with a key of 24 bytes between.
func keyed(keys ...string) map[uint32]api.Node {
	nodes := map[uint32]api.Node{3: leaf(20, pad("a1", 24), pad("a2", 24)), 4: leaf(60, pad("b1", 24), pad("b2", 24))}
	last := nodes[4]
	last.Pairs = append(last.Pairs, pair(pad("b3", 24), 15))
	nodes[4] = last
	root := branch(ids(3, 4), "b")
	for i, k := range keys {
		nodes[uint32(5+i)] = leaf(60, k)
		root.Kids, root.Keys = append(root.Kids, uint32(5+i)), append(root.Keys, k)
	}
	nodes[2] = root
	return nodes
}

// keys24 is keys of 24 bytes, that begin with these letters.
func keys24(s string) []string {
	var all []string
	for _, k := range words(s) {
		all = append(all, pad(k, 24))
	}
	return all
}

func TestBranchThatDoesNotFitThen(t *testing.T) {
	// The root has 232 bytes, and 23 more with the new key.
	nodes := keyed(append(keys24("cdefghi"), "j", "k", "l")...)
	wantDeleted(t, nodes, pad("a2", 24),
		"[[(a1 b1) b2 (b2 b3) c (c) d (d) e (e)] f [(f) g (g) h (h) i (i) j (j) k (k) l (l)]]", ids(2, 3, 4), 5, 0)
	// With 214 bytes, and 23 more, it fits.
	wantDeleted(t, keyed(keys24("cdefghi")...), pad("a2", 24),
		"[(a1 b1) b2 (b2 b3) c (c) d (d) e (e) f (f) g (g) h (h) i (i)]", ids(2, 3, 4), 3, 0)
	// Below another branch: what is split stands in that one.
	nodes[15], nodes[16] = nodes[2], branch(ids(17, 18), "x")
	nodes[17], nodes[18] = leaf(60, "m"), leaf(60, "x")
	nodes[2] = branch(ids(15, 16), "m")
	wantDeleted(t, nodes, pad("a2", 24),
		"[[(a1 b1) b2 (b2 b3) c (c) d (d) e (e)] f [(f) g (g) h (h) i (i) j (j) k (k) l (l)] m [(m) x (x)]]", ids(2, 3, 4, 15), 5, 0)
}

func TestBranchesThatAreJoined(t *testing.T) {
	nodes := map[uint32]api.Node{
		2: branch(ids(3, 4), "m"), 3: branch(ids(5, 6), "g"), 4: branch(ids(7, 8), "t"),
		5: of20("abc"), 6: of20("ghi"), 7: of20("mno"), 8: of20("tuv"),
	}
	// The root is the one branch that is left; the copy of the old one is given.
	wantDeleted(t, nodes, "b", "[(a c g h i) m (m n o) t (t u v)]", ids(2, 3, 4, 5, 6), 2, 1)
	// As the last one: the copies of both that were joined into the ones ahead are given, too.
	wantDeleted(t, nodes, "u", "[(a b c) g (g h i) m (m n o t v)]", ids(2, 3, 4, 7, 8), 2, 3)
	// With a neighbour that is too large for both to fit, both are split again.
	nodes[2], nodes[3] = branch(ids(3, 4), pad("m", 24)), branch(ids(5, 6, 7), "g", pad("l", 24))
	nodes[7] = leaf(60, pad("l", 24))
	keys := append(keys24("nopqrs"), "t", "u", "v", "w", "x", "y", "z")
	var all []uint32
	for i, k := range keys {
		all = append(all, uint32(8+i))
		nodes[uint32(8+i)] = leaf(60, k)
	}
	nodes[4] = branch(all, keys[1:]...)
	wantDeleted(t, nodes, "b",
		"[[(a c g h i) l (l) m (n) o (o) p (p)] q [(q) r (r) s (s) t (t) u (u) v (v) w (w) x (x) y (y) z (z)]]", ids(2, 3, 4, 5, 6), 4, 0)
}

func TestBranchesOfOneKid(t *testing.T) {
	// A leaf without a neighbour stays small, its branch is joined.
	nodes := map[uint32]api.Node{2: branch(ids(3, 4), "m"), 3: branch(ids(5)), 4: branch(ids(6, 7), "t"), 5: of20("ab"), 6: of20("mno"), 7: of20("tuv")}
	wantDeleted(t, nodes, "b", "[(a) m (m n o) t (t u v)]", ids(2, 3, 4, 5), 2, 1)
	nodes = map[uint32]api.Node{2: branch(ids(3)), 3: branch(ids(4, 5), "g"), 4: of20("abcde"), 5: of20("ghi")}
	wantDeleted(t, nodes, "a", "[(b c d e) g (g h i)]", ids(2, 3, 4), 2, 1)
	// Put lets it be.
	w := open(t, planted(t, 60, nodes), 2, of(6, 60))
	put(t, w, pair("f", 1))
	wantShape(t, planted(t, 60, nodes), w, "[[(a b c d e f) g (g h i)]]")
}

func TestTheLastPair(t *testing.T) {
	wantDeleted(t, map[uint32]api.Node{2: of20("a")}, "a", "", ids(2), 0, 1)
	wantDeleted(t, map[uint32]api.Node{2: branch(ids(3)), 3: of20("a")}, "a", "", ids(2, 3), 0, 2)
	wantDeleted(t, map[uint32]api.Node{2: branch(ids(3, 4), "m"), 3: of20("a"), 4: {}}, "a", "", ids(2, 3, 4), 0, 2)
	wantDeleted(t, map[uint32]api.Node{2: branch(ids(3, 4), "m"), 3: {}, 4: of20("m")}, "m", "", ids(2, 3, 4), 0, 3)
	// A tree that is empty again takes pairs again.
	d := planted(t, 60, map[uint32]api.Node{2: of20("a")})
	w := open(t, d, 2, of(3, 60))
	for range 3 {
		remove(t, w, "a")
		if w.Root() != 0 || len(w.Pages()) != 0 {
			t.Error(w.Root(), w.Pages())
		}
		wantPairs(t, w, nil)
		put(t, w, pair("a", 1))
		wantWhole(t, d, w, 5)
	}
	// An empty leaf as a root is a tree without pairs, till one is put.
	w = open(t, planted(t, 60, map[uint32]api.Node{2: {}}), 2, of(3, 60))
	wantPairs(t, w, nil)
	if was, e := w.Delete("a"); was || e != api.OK || w.Root() != 2 {
		t.Error(was, e, w.Root())
	}
	put(t, w, pair("a", 1))
	wantPairs(t, w, leaf(1, "a").Pairs)
}

func TestKeysOfBranches(t *testing.T) {
	// A key that is a branch's Key is behind it; those of deleted pairs stay there.
	d := planted(t, 60, three(of20("abcd"), of20("ghijk"), of20("pqrst")))
	w := open(t, d, 2, of(6, 60))
	remove(t, w, "g")
	remove(t, w, "p")
	wantShape(t, d, w, "[(a b c d) g (h i j k) p (q r s t)]")
	for _, k := range words("gp") {
		if _, is, e := w.Get(k); is || e != api.OK {
			t.Error(k, is, e)
		}
	}
	put(t, w, pair("f\xff", 1))
	put(t, w, pair("p", 1))
	put(t, w, pair("g", 1))
	wantShape(t, d, w, "[(a b c d f\xff) g (g h i j k) p (p q r s t)]")
	// Keys rise byte by byte.
	w = open(t, d, 0, of(6, 60))
	for _, k := range []string{"é", "\x80", "b", "\xff\x00", "B", "\x00", "a long key", "\xff", "10", "2", "\x7f"} {
		put(t, w, pair(k, 40))
	}
	var want []api.Pair
	for _, k := range []string{"\x00", "10", "2", "B", "a long key", "b", "\x7f", "\x80", "é", "\xff", "\xff\x00"} {
		want = append(want, pair(k, 40))
	}
	wantPairs(t, w, want)
}

// P7.3, and the rules that hold everywhere.

// run is a work whose tree is held against a plain one, and a disk that may not be written.
type run struct {
	t     *testing.T
	dice  dice
	work  *tree.Work
	model *model
	pairs map[string]string
	keys  func() string
}

// step puts a pair, or deletes one.
func (r *run) step(putting bool, value int) {
	r.t.Helper()
	key := r.keys()
	if putting {
		p := pair(key, value)
		put(r.t, r.work, p)
		r.model.put(p)
		r.pairs[key] = p.V
		return
	}
	_, is := r.pairs[key]
	if was, e := r.work.Delete(key); was != is || e != api.OK {
		r.t.Fatalf("Delete(%q): %v, %d, want %v", key, was, e, is)
	}
	if is {
		r.model.remove(key)
		delete(r.pairs, key)
	}
}

// want holds the work against the plain tree.
func (r *run) want(k *walk, shape string, before api.Alloc) {
	r.t.Helper()
	want := ""
	if r.model.root != nil {
		want = r.model.root.tell()
	}
	if shape != want {
		r.t.Fatalf("a tree\n%s\nwant\n%s", shape, want)
	}
	if !slices.Equal(k.pairs, sorted(r.pairs)) {
		r.t.Fatalf("pairs %v", k.pairs)
	}
	a := r.work.Alloc()
	taken := int(a.High) - int(before.High) + len(before.Spare) - len(a.Spare) + r.model.given
	if taken != r.model.taken || len(r.work.Gone()) != r.model.gone {
		r.t.Fatalf("taken %d, want %d; gone %d, want %d", taken, r.model.taken, len(r.work.Gone()), r.model.gone)
	}
}

// runs is a long run of many transactions, of keys and values of some kind.
func runs(t *testing.T, seed dice, steps int, keys func(d *dice) string, value func(d *dice) int) {
	t.Helper()
	d := blank(t, 1500)
	r := &run{t: t, dice: seed, model: &model{}, pairs: map[string]string{}}
	r.keys = func() string { return keys(&r.dice) }
	a, root := of(2, 1500), uint32(0)
	for tx := uint64(2); tx < 16; tx++ {
		var e api.Errno
		if r.work, e = tree.Open(d, root, a, tx, tx-1); e != api.OK {
			t.Fatal(e)
		}
		held := bytesOf(d)
		old := sorted(r.pairs)
		for i := range steps {
			// Now more is put, now more deleted; in the end all is.
			r.step(r.dice.roll(10) < []int{9, 7, 3, 1}[tx%4] && tx < 15, value(&r.dice))
			if i%16 == 0 || i == steps-1 {
				k, shape := walked(t, d, r.work)
				r.want(k, shape, a)
				wantWhole(t, d, r.work, tx)
			}
		}
		wantPairs(t, r.work, sorted(r.pairs))
		wantUnwritten(t, d, held)
		// The old root tells what it told.
		before, _ := tree.Open(d, root, a, tx, tx-1)
		wantPairs(t, before, old)
		a, root = stored(t, d, r.work, tx), r.work.Root()
		r.model.stored()
	}
}

func TestALongRunOfAllLengths(t *testing.T) {
	for seed := range dice(6) {
		runs(t, seed, 300, func(d *dice) string {
			k := d.roll(400)
			return pad(fmt.Sprint(k), 3+k*7%22)
		}, func(d *dice) int { return d.roll(61) })
	}
}

func TestALongRunOfLongOnes(t *testing.T) {
	runs(t, 9, 300, func(d *dice) string { return pad(fmt.Sprint(d.roll(400)), 24) }, func(d *dice) int { return 50 + d.roll(11) })
}

func TestALongRunOfShortOnes(t *testing.T) {
	runs(t, 10, 600, func(d *dice) string { return string([]byte{byte(1 + d.roll(40)), byte(d.roll(40))}) }, func(d *dice) int { return d.roll(3) })
}

func TestALongRunOfShortAndLongKeys(t *testing.T) {
	// Keys between nodes change between short and long ones: so branches grow where pairs are deleted.
	for seed := range dice(6) {
		runs(t, seed+20, 300, func(d *dice) string {
			k := d.roll(500)
			if k%4 > 0 {
				return fmt.Sprint(k)
			}
			return pad(fmt.Sprint(k), 24)
		}, func(d *dice) int { return 30 + d.roll(31) })
	}
}

func TestAllKeysUpAndDown(t *testing.T) {
	d := blank(t, 16384)
	for name, order := range map[string]func(i int) int{
		"up": func(i int) int { return i }, "down": func(i int) int { return 1999 - i }, "about": func(i int) int { return i * 701 % 2000 },
	} {
		w := open(t, d, 0, of(2, 16384))
		for i := range 2000 {
			put(t, w, pair(fmt.Sprintf("%04d", order(i)), 30))
		}
		wantWhole(t, d, w, 5)
		if l, e := w.All(); len(l) != 2000 || e != api.OK {
			t.Fatal(name, len(l), e)
		}
		for i := range 2000 {
			remove(t, w, fmt.Sprintf("%04d", order(i)))
			if i%100 == 0 {
				wantWhole(t, d, w, 5)
			}
		}
		if w.Root() != 0 || len(w.Pages()) != 0 || len(w.Alloc().Spare) != int(w.Alloc().High)-2 {
			t.Error(name, w.Root(), len(w.Pages()))
		}
	}
}

func TestPagesRunOutInALongRun(t *testing.T) {
	for seed := range dice(40) {
		w := open(t, blank(t, 60), 0, of(2, uint32(3+seed)))
		pairs := map[string]string{}
		d := seed
		for i := range 10000 {
			p := pair(fmt.Sprint(d.roll(300)), d.roll(61))
			if d.roll(4) == 0 {
				was, e := w.Delete(p.K)
				if _, is := pairs[p.K]; was != is || e != api.OK {
					t.Fatal(i, was, is, e)
				}
				delete(pairs, p.K)
				continue
			}
			before, all := stateOf(w), sorted(pairs)
			if got, e := w.All(); !slices.Equal(got, all) || e != api.OK {
				t.Fatal(i, got, e)
			}
			if e := w.Put(p); e == api.ErrFull {
				wantTold(t, w, api.ErrFull)
				wantState(t, w, before)
				break
			}
			pairs[p.K] = p.V
			if i == 9999 {
				t.Error("pages never run out")
			}
		}
	}
}

// strange is nodes of any kind in pages from 2 to 9, whose kids are some of these pages, whatever their keys are.
func strange(d *dice) map[uint32]api.Node {
	nodes := map[uint32]api.Node{}
	for id := uint32(2); id < 10; id++ {
		keys := words("bdfhjlnpr")[d.roll(4):][:d.roll(5)]
		if d.roll(3) == 0 {
			nodes[id] = leaf(d.roll(40), keys...)
			continue
		}
		n := branch(nil, keys...)
		for range len(keys) + 1 {
			n.Kids = append(n.Kids, id+1+uint32(d.roll(4)))
		}
		if d.roll(20) == 0 {
			n.Kids[0] = 2
		}
		nodes[id] = n
	}
	return nodes
}

func TestWhateverStandsOnADisk(t *testing.T) {
	for seed := range dice(3000) {
		d := seed * 7919
		disk := planted(t, 60, strange(&d))
		held := bytesOf(disk)
		// Pages that are reached, and free ones, may be the same here, and those that were given may be taken at once.
		var l []api.Spare
		for id := range uint32(12) {
			if id > 1 && d.roll(3) == 0 {
				l = append(l, api.Spare{Page: id, Tx: uint64(1 + d.roll(8))})
			}
		}
		w, e := tree.Open(disk, uint32(2+d.roll(5)), of(12, uint32(12+d.roll(8)), l...), 5, uint64(d.roll(9)))
		if e != api.OK {
			t.Fatal(seed, e)
		}
		for range 20 {
			key, before := words("abcdefghijklmnopqrs")[d.roll(19)], stateOf(w)
			v, is, e := w.Get(key)
			if e != api.OK && e != api.ErrTree || e != api.OK && (v != "" || is) {
				t.Fatal(seed, v, is, e)
			}
			if d.roll(3) > 0 {
				e = w.Put(pair(key, d.roll(61)))
			} else {
				is, e = w.Delete(key)
			}
			if e == api.OK {
				continue
			}
			if e != api.ErrTree && e != api.ErrFull {
				t.Fatal(seed, e)
			}
			wantTold(t, w, e)
			wantState(t, w, before)
			break
		}
		wantUnwritten(t, disk, held)
	}
}

func TestTwoWorksOfOneDisk(t *testing.T) {
	d := planted(t, 60, three(of20("abcde"), of20("ghijk"), of20("pqrst")))
	a, b := open(t, d, 2, of(6, 60)), open(t, d, 2, of(6, 60))
	put(t, a, pair("b", 1))
	remove(t, b, "c")
	put(t, a, pair("x", 1))
	wantShape(t, d, a, "[(a b c d e) g (g h i j k) p (p q r s t x)]")
	wantShape(t, d, b, "[(a b d e) g (g h i j k) p (p q r s t)]")
	if len(a.Pages()) != 3 || len(b.Pages()) != 2 {
		t.Error(a.Pages(), b.Pages())
	}
}

func TestAnswersAreTheSame(t *testing.T) {
	work := func() *tree.Work {
		d := planted(t, 60, three(of20("abcde"), of20("ghijk"), of20("pqrst")))
		w := open(t, d, 2, of(8, 60, spares(6, 2, 4)...))
		r := dice(7)
		for range 100 {
			p := pair(fmt.Sprint(r.roll(40)), r.roll(61))
			if r.roll(3) > 0 {
				put(t, w, p)
			} else if _, e := w.Delete(p.K); e != api.OK {
				t.Fatal(e)
			}
		}
		return w
	}
	w := work()
	for range 5 {
		wantState(t, work(), stateOf(w))
	}
	// Asking changes nothing.
	before := stateOf(w)
	for range 3 {
		l, _ := w.All()
		wantPairs(t, w, l)
		wantState(t, w, before)
	}
}

// fill writes over a list, and its spare room.
func fill[T any](l []T, by T) {
	l = l[:cap(l)]
	for i := range l {
		l[i] = by
	}
}

func TestTheAllocIsNotKept(t *testing.T) {
	first := spares(3, 2, 4)
	kept := open(t, blank(t, 60), 0, of(6, 60, first...))
	fill(first, api.Spare{Page: 77, Tx: 77})
	wantState(t, kept, state{Alloc: of(6, 60, spares(3, 2, 4)...)})
	put(t, kept, pair("a", 1))
	wantState(t, kept, state{Root: 3, Alloc: of(6, 60, spares(4, 1, 4)...), Pages: []api.Page{pageOf(3, 5, leaf(1, "a"))}})
	l := make([]api.Spare, 3, 9)
	copy(l, []api.Spare{{Page: 3, Tx: 4}, {Page: 4, Tx: 4}, {Page: 5, Tx: 9}})
	room := slices.Clone(l[:9])
	w := open(t, blank(t, 60), 0, of(6, 60, l...))
	put(t, w, pair("a", 1))
	put(t, w, pair("b", 60))
	remove(t, w, "a")
	remove(t, w, "b")
	if !slices.Equal(l[:9], room) {
		t.Error("the list was written", l[:9])
	}
	before := stateOf(w)
	fill(l, api.Spare{Page: 77, Tx: 77})
	wantState(t, w, before)
	put(t, w, pair("a", 1))
	if w.Root() != 4 {
		t.Error(w.Root())
	}
}

func TestAnswersShareNoList(t *testing.T) {
	d := planted(t, 60, three(of20("abcde"), of20("ghijk"), of20("pqrst")))
	w := open(t, d, 2, of(9, 60, spares(6, 3, 9)...))
	put(t, w, pair("b", 1))
	put(t, w, pair("b2", 50))
	put(t, w, pair("b3", 50))
	put(t, w, pair("b4", 50))
	remove(t, w, "q")
	before := stateOf(w)
	all, _ := w.All()
	for range 2 {
		l, _ := w.All()
		a := w.Alloc()
		fill(l, pair("x", 1))
		fill(a.Spare, api.Spare{Page: 77, Tx: 77})
		fill(w.Gone(), 77)
		fill(w.Pages(), api.Page{Kind: 77})
		_ = append(a.Spare[:0], spares(2, 3, 1)...)
		wantState(t, w, before)
		wantPairs(t, w, all)
	}
	// What was answered ahead is not changed by what comes behind.
	gone, pages, spare := w.Gone(), w.Pages(), w.Alloc().Spare
	held := []any{slices.Clone(gone), slices.Clone(pages), slices.Clone(spare), slices.Clone(all)}
	for _, k := range words("abcdeghijk") {
		w.Delete(k)
	}
	put(t, w, pair("zz", 60))
	if !reflect.DeepEqual(held, []any{gone, pages, spare, all}) {
		t.Error("an answer was changed")
	}
}

func TestAnAllocWithoutSparesIsOneOfNoList(t *testing.T) {
	for _, l := range [][]api.Spare{nil, {}, make([]api.Spare, 0, 5)} {
		w := open(t, blank(t, 60), 0, api.Alloc{High: 2, Cap: 60, Spare: l})
		put(t, w, pair("a", 1))
		remove(t, w, "a")
		wantState(t, w, state{Alloc: of(3, 60, api.Spare{Page: 2, Tx: 5})})
	}
}
