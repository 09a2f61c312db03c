package cursor_test

import (
	"fmt"
	"math"
	"slices"
	"strings"
	"testing"

	"bazaar/api"
	"bazaar/cursor"
	"bazaar/disk"
	"bazaar/page"
	"bazaar/tree"
)

// P8.1 and P8.2: no disk, no cursor, no pages.

func TestNoDisk(t *testing.T) {
	for _, root := range ids(0, 1, 2, 16384, math.MaxUint32) {
		for _, key := range []string{"", "a", some(25)} {
			wantGet(t, nil, root, key, "", false, api.ErrNil)
			for _, most := range []int{math.MinInt, -1, 0, 1, 1000, 1001, math.MaxInt} {
				wantRange(t, nil, root, key, "", most, nil, api.ErrNil)
			}
			if c, e := cursor.Open(nil, root, key); c != nil || e != api.ErrNil {
				t.Errorf("Open: %v, %d", c, e)
			}
		}
		wantPages(t, nil, root, nil, api.ErrNil)
	}
}

func TestNoCursor(t *testing.T) {
	wantNone(t, nil, api.ErrNil)
	wantNone(t, &cursor.Cursor{}, api.ErrNil)
}

func TestEmptyTree(t *testing.T) {
	// Of a disk without any right page, too, and of the least one.
	for _, d := range []*disk.Disk{blank(t, 1), blank(t, 60), planted(t, 60, map[uint32]api.Node{2: leaf("a")})} {
		for _, key := range []string{"", "a", "\x00", some(24), some(25), some(70000)} {
			wantGet(t, d, 0, key, "", false, api.OK)
			for _, most := range []int{0, 1, 1000} {
				wantRange(t, d, 0, key, "", most, nil, api.OK)
				wantRange(t, d, 0, key, "b", most, nil, api.OK)
			}
			wantCursor(t, d, 0, key, nil, api.OK)
		}
		wantPages(t, d, 0, nil, api.OK)
	}
	// A leaf without pairs is a tree without pairs, but of a page.
	d := planted(t, 60, map[uint32]api.Node{2: {}})
	wantTree(t, d, 2, nil)
	wantGet(t, d, 2, "a", "", false, api.OK)
	wantPages(t, d, 2, ids(2), api.OK)
}

func TestRootsThatAreNoPages(t *testing.T) {
	d := planted(t, 60, map[uint32]api.Node{3: leaf("a", "b")})
	for _, root := range ids(1, 2, 4, 59, 60, 61, 16383, 16384, 1<<30, 1<<30+3, math.MaxUint32) {
		for _, key := range []string{"", "a", some(25)} {
			wantTorn(t, d, root, key)
		}
	}
	wantTree(t, d, 3, leaf("a", "b").Pairs)
	// A page at the place of the root 1 would have to be page 1, which no page is; one of another Id is none.
	s, _ := page.Encode(pageOf(3, leaf("a", "b")))
	for _, id := range []int{0, 1, 2} {
		writeBytes(t, d, id, s)
	}
	for _, root := range ids(1, 2) {
		wantTorn(t, d, root, "a")
	}
	wantTree(t, d, 0, nil)
}

func TestMost(t *testing.T) {
	d := blank(t, 200)
	root, _, pairs := grown(t, d, 100, 15)
	for _, most := range []int{0, 1, 2, 14, 15, 16, 999, 1000} {
		wantRange(t, d, root, "", "", most, pairs[:most], api.OK)
		wantRange(t, d, root, pairs[7].K, "", most, pairs[7:7+most], api.OK)
	}
	for _, most := range []int{math.MinInt, math.MinInt32, -1000, -1, 1001, 1002, math.MaxInt32, math.MaxInt} {
		wantRange(t, d, root, "", "", most, nil, api.ErrArg)
		wantRange(t, d, root, "c", "b", most, nil, api.ErrArg)
		wantRange(t, d, 0, "", "", most, nil, api.ErrArg)
		// Told ahead of what a page would tell.
		wantRange(t, d, 199, "", "", most, nil, api.ErrArg)
	}
}

// P8.1 and P8.2: trees by hand.

func TestTheExample(t *testing.T) {
	d := planted(t, 60, map[uint32]api.Node{2: leaf("a", "b", "c")})
	wantRange(t, d, 2, "b", "", 5, leaf("b", "c").Pairs, api.OK)
	wantTree(t, d, 2, leaf("a", "b", "c").Pairs)
	wantPages(t, d, 2, ids(2), api.OK)
}

// twoLevels is three leaves below a branch.
func twoLevels(t *testing.T) *disk.Disk {
	t.Helper()
	return planted(t, 60, map[uint32]api.Node{
		2: branch(ids(5, 4, 7), "g", "p"), 5: leaf("b", "c", "d"), 4: leaf("h", "i"), 7: leaf("p", "q", "r"),
		// Pages of others.
		3: leaf("a", "z"), 6: branch(ids(3, 5), "m"),
	})
}

func TestGet(t *testing.T) {
	d := twoLevels(t)
	for _, k := range words("bcdhipqr") {
		wantGet(t, d, 2, k, "v"+k, true, api.OK)
	}
	// Ahead of all, between, behind all; a branch's key that no pair has; ones that no pair can have.
	for _, k := range []string{"", "\x00", "a", "B", "bb", "c\x00", "e", "g", "gg", "j", "o\xff", "pp", "s", "z", "\xff", some(24), some(25), "b" + some(300), some(70000)} {
		wantGet(t, d, 2, k, "", false, api.OK)
	}
	// A value without bytes is one.
	d = planted(t, 60, map[uint32]api.Node{2: {Pairs: []api.Pair{{K: "a"}, {K: some(24), V: some(60)}}}})
	wantGet(t, d, 2, "a", "", true, api.OK)
	wantGet(t, d, 2, some(24), some(60), true, api.OK)
	wantGet(t, d, 2, some(25), "", false, api.OK)
}

func TestRangesAndCursors(t *testing.T) {
	d := twoLevels(t)
	pairs := leaf(words("bcdhipqr")...).Pairs
	wantTree(t, d, 2, pairs)
	ends := append(words("abcdefghijopqrsz"), "", "\x00", "bb", "c\x00", "g\x00", "o\xff", "p\x00", "\xff", some(25), some(70000))
	for _, from := range ends {
		for _, to := range ends {
			for _, most := range []int{0, 1, 2, 3, 4, 5, 6, 7, 8, 9, 1000} {
				wantRange(t, d, 2, from, to, most, within(pairs, from, to, most), api.OK)
			}
		}
		wantCursor(t, d, 2, from, within(pairs, from, "", 9), api.OK)
	}
}

func TestKeysRiseByteByByte(t *testing.T) {
	keys := []string{"\x00", "\x00\x00", "\x01", "10", "2", "B", "a", "a\x00", "a\x00\x00", "a\x01", "a long key", "b", some(23), some(24), "\x7f", "\x80", "é", "\xff", "\xff\x00", strings.Repeat("\xff", 24)}
	nodes := map[uint32]api.Node{2: branch(ids(3, 4, 5), keys[7], keys[13]), 3: leaf(keys[:7]...), 4: leaf(keys[7:13]...), 5: leaf(keys[13:]...)}
	wantTree(t, planted(t, 60, nodes), 2, leaf(keys...).Pairs)
	wantPages(t, planted(t, 60, nodes), 2, ids(2, 3, 4, 5), api.OK)
}

func TestLeavesWithoutPairs(t *testing.T) {
	d := planted(t, 60, map[uint32]api.Node{
		2: branch(ids(3, 4, 5, 6, 7), "d", "h", "m", "t"), 3: {}, 4: leaf("e"), 5: {}, 6: branch(ids(8, 9), "p"), 7: {}, 8: {}, 9: leaf("q", "r"),
	})
	pairs := leaf("e", "q", "r").Pairs
	wantTree(t, d, 2, pairs)
	for _, from := range words("adefhmopqrstz") {
		for _, to := range words("adefhmopqrstz") {
			for most := range 4 {
				wantRange(t, d, 2, from, to, most, within(pairs, from, to, most), api.OK)
			}
		}
		wantCursor(t, d, 2, from, within(pairs, from, "", 9), api.OK)
	}
	wantPages(t, d, 2, ids(2, 3, 4, 5, 6, 7, 8, 9), api.OK)
}

func TestManyLevels(t *testing.T) {
	for _, leaves := range []int{1, 2, 30, 31, 900, 901} {
		d := blank(t, 1000)
		root, pages, pairs := grown(t, d, leaves, 3)
		held := bytesOf(d)
		wantTree(t, d, root, pairs)
		wantPages(t, d, root, pages, api.OK)
		for i := range 40 {
			at := i * len(pairs) / 40
			wantRange(t, d, root, pairs[at].K, pairs[len(pairs)-1].K, 1000, within(pairs[at:len(pairs)-1], "", "", 1000), api.OK)
		}
		wantUnwritten(t, d, held)
	}
}

// P8.1 and P8.2: pages that are wrong.

func TestRootThatIsNoNode(t *testing.T) {
	d := blank(t, 60)
	for name, bytes := range wrongPages(t) {
		writeBytes(t, d, 9, bytes)
		for _, key := range []string{"", "h", "z", some(25)} {
			wantTorn(t, d, 9, key)
		}
		if t.Failed() {
			t.Fatal(name)
		}
	}
	write(t, d, pageOf(9, leaf("h", "i")))
	wantTree(t, d, 9, leaf("h", "i").Pairs)
}

// wantMiddleTorn asks a tree, whose leaf of the keys from g on, and less than p, is wrong, for all that can be told without it.
func wantMiddleTorn(t *testing.T, d *disk.Disk) {
	t.Helper()
	pairs := leaf(words("bcdpqr")...).Pairs
	for _, key := range []string{"g", "h", "i", "ii", "o\xff"} {
		wantTorn(t, d, 2, key)
	}
	for _, key := range words("bcdpqr") {
		wantGet(t, d, 2, key, "v"+key, true, api.OK)
	}
	for _, key := range []string{"", "a", "f\xff", "z"} {
		wantGet(t, d, 2, key, "", false, api.OK)
	}
	// Neither behind the last pair that is asked for, nor where no key is less than to.
	for _, x := range []struct {
		from, to string
		most     int
	}{
		{"", "", 0}, {"", "", 1}, {"", "", 3}, {"c", "", 2}, {"d", "", 1}, {"e", "", 0}, {"f\xff", "", 0},
		{"", "d", 1000}, {"", "e", 1000}, {"", "g", 1000}, {"e", "f", 1000}, {"e", "g", 1}, {"d", "a", 1000}, {"e", "e", 1000}, {"e", "a", 5},
		{"p", "", 1000}, {"p", "", 0}, {"q", "r", 9}, {"z", "", 1000}, {"p", "h", 1000},
	} {
		wantRange(t, d, 2, x.from, x.to, x.most, within(pairs, x.from, x.to, x.most), api.OK)
	}
	for _, x := range []struct {
		from, to string
		most     int
	}{
		{"", "", 4}, {"", "", 1000}, {"c", "", 3}, {"e", "", 1}, {"", "g\x00", 4}, {"", "h", 1000}, {"e", "z", 1}, {"d", "p", 2},
	} {
		wantRange(t, d, 2, x.from, x.to, x.most, nil, api.ErrTree)
	}
	wantPages(t, d, 2, nil, api.ErrTree)
	wantCursor(t, d, 2, "", pairs[:3], api.ErrTree)
	wantCursor(t, d, 2, "d", pairs[2:3], api.ErrTree)
	wantCursor(t, d, 2, "e", nil, api.ErrTree)
	wantCursor(t, d, 2, "p", pairs[3:], api.OK)
	wantCursor(t, d, 2, "z", nil, api.OK)
}

func TestKidThatIsNoNode(t *testing.T) {
	d := planted(t, 60, map[uint32]api.Node{2: branch(ids(3, 9, 4), "g", "p"), 3: leaf("b", "c", "d"), 4: leaf("p", "q", "r")})
	for name, bytes := range wrongPages(t) {
		writeBytes(t, d, 9, bytes)
		wantMiddleTorn(t, d)
		if t.Failed() {
			t.Fatal(name)
		}
	}
	// One level lower.
	writeBytes(t, d, 9, wrongPages(t)["nothing"])
	write(t, d, pageOf(2, branch(ids(10, 11), "m")))
	write(t, d, pageOf(10, branch(ids(3, 9), "g")))
	write(t, d, pageOf(11, branch(ids(9, 4), "p")))
	wantMiddleTorn(t, d)
}

func TestPagesLooksAtKidsThatHoldNothing(t *testing.T) {
	// No key is from g on, and less than g: but the page is reached.
	nodes := map[uint32]api.Node{2: branch(ids(3, 4), "g"), 3: leaf("b"), 4: branch(ids(9, 5), "g"), 5: leaf("g", "h")}
	d := planted(t, 60, nodes)
	wantTree(t, d, 2, leaf("b", "g", "h").Pairs)
	wantPages(t, d, 2, nil, api.ErrTree)
	write(t, d, pageOf(9, api.Node{}))
	wantTree(t, d, 2, leaf("b", "g", "h").Pairs)
	wantPages(t, d, 2, ids(2, 3, 4, 5, 9), api.OK)
}

func TestCursorsBehindAnError(t *testing.T) {
	d := planted(t, 60, map[uint32]api.Node{2: branch(ids(3, 9), "m"), 3: leaf("a", "b")})
	c, other := open(t, d, 2, ""), open(t, d, 2, "")
	wantNext(t, c, leaf("a").Pairs[0])
	wantNext(t, c, leaf("b").Pairs[0])
	wantNone(t, c, api.ErrTree)
	// Even where the page is right then: but of other cursors nothing was told.
	write(t, d, pageOf(9, leaf("m", "n")))
	wantNone(t, c, api.ErrCursor)
	for _, p := range leaf(words("abmn")...).Pairs {
		wantNext(t, other, p)
		wantNone(t, c, api.ErrCursor)
	}
	wantNone(t, other, api.OK)
	wantTree(t, d, 2, leaf(words("abmn")...).Pairs)
}

func TestOpenLooksAtNoPage(t *testing.T) {
	d := blank(t, 60)
	for _, root := range ids(1, 2, 60, math.MaxUint32) {
		wantCursor(t, d, root, "a", nil, api.ErrTree)
	}
	c := open(t, d, 2, "b")
	write(t, d, pageOf(2, leaf("a", "b")))
	wantNext(t, c, leaf("b").Pairs[0])
	wantNone(t, c, api.OK)
}

func TestWhatACrashTakesIsReadNoMore(t *testing.T) {
	d := planted(t, 60, map[uint32]api.Node{2: leaf("a", "b")})
	d.Sync()
	write(t, d, pageOf(3, leaf("c")))
	wantTree(t, d, 3, leaf("c").Pairs)
	d.Crash(nil)
	wantTorn(t, d, 3, "c")
	wantTree(t, d, 2, leaf("a", "b").Pairs)
}

// P8.1 and P8.2: pages above each other.

func TestPagesAboveEachOther(t *testing.T) {
	for _, n := range []int{1, 2, 63, 64} {
		d := planted(t, 300, chain(2, n, leaf("a", "b")))
		wantTree(t, d, 2, leaf("a", "b").Pairs)
		l, e := cursor.Pages(d, 2)
		if len(l) != n || l[0] != 2 || l[n-1] != uint32(1+n) || e != api.OK {
			t.Errorf("%d above each other: %v, %d", n, l, e)
		}
	}
	for _, n := range []int{65, 66, 200} {
		d := planted(t, 300, chain(2, n, leaf("a", "b")))
		for _, key := range []string{"", "a", "z"} {
			wantTorn(t, d, 2, key)
		}
		// From another page on there are fewer.
		wantTree(t, d, uint32(n-62), leaf("a", "b").Pairs)
	}
}

func TestPagesOfWhichSomeAreTooLow(t *testing.T) {
	// Pages above each other stand below page 2, and, one level lower, below page 3, too: whichever is the first kid.
	for n, fault := range map[int]api.Errno{61: api.OK, 62: api.OK, 63: api.ErrTree} {
		for _, kids := range [][]uint32{{10, 3}, {3, 10}} {
			nodes := chain(10, n, leaf("a", "n"))
			// That the last kid of the first one has fewer below it does not matter.
			nodes[2], nodes[3], nodes[10], nodes[4] = branch(kids, "m"), branch(ids(10)), branch(ids(11, 4), "x"), leaf("y")
			d := planted(t, 100, nodes)
			if l, e := cursor.Pages(d, 2); e != fault || (e == api.OK) != (len(l) == n+3) {
				t.Errorf("%d, %v: %v, %d", n, kids, l, e)
			}
			// A key is found where its own way is not too long.
			faults := []api.Errno{api.OK, fault}
			if kids[0] == 3 {
				slices.Reverse(faults)
			}
			_, _, first := cursor.Get(d, 2, "a")
			_, _, second := cursor.Get(d, 2, "n")
			if first != faults[0] || second != faults[1] {
				t.Errorf("%d, %v: %d, %d, want %v", n, kids, first, second, faults)
			}
			wantGet(t, d, 2, "y", "vy", true, api.OK)
		}
	}
}

func TestPagesThatAreEachOthersKids(t *testing.T) {
	for name, nodes := range map[string]map[uint32]api.Node{
		"its own kid":       {2: branch(ids(2))},
		"its own two kids":  {2: branch(ids(2, 2), "m")},
		"its own many kids": {2: branch(slices.Repeat(ids(2), 9), words("bcdefghi")...)},
		"each other's":      {2: branch(ids(3)), 3: branch(ids(2))},
		"each other's, two": {2: branch(ids(3, 3), "m"), 3: branch(ids(2, 2), "m")},
		"beside a leaf":     {2: branch(ids(3, 3), "m"), 3: branch(ids(4, 2, 2), "c", "m"), 4: leaf("a")},
	} {
		d := planted(t, 60, nodes)
		for _, key := range []string{"g", "m", "z"} {
			wantTorn(t, d, 2, key)
		}
		if t.Failed() {
			t.Fatal(name)
		}
	}
	// What can be told without them is told.
	d := planted(t, 60, map[uint32]api.Node{2: branch(ids(3, 2), "m"), 3: leaf("a", "b")})
	wantGet(t, d, 2, "b", "vb", true, api.OK)
	wantRange(t, d, 2, "", "", 2, leaf("a", "b").Pairs, api.OK)
	wantRange(t, d, 2, "", "m", 1000, leaf("a", "b").Pairs, api.OK)
	wantRange(t, d, 2, "", "", 3, nil, api.ErrTree)
	wantCursor(t, d, 2, "", leaf("a", "b").Pairs, api.ErrTree)
	wantPages(t, d, 2, nil, api.ErrTree)
}

// P8.1: which pages are reached.

func TestPagesAreToldOnce(t *testing.T) {
	d := planted(t, 60, map[uint32]api.Node{
		2: branch(ids(8, 3, 8), "g", "p"), 8: branch(ids(5, 4), "c"), 3: branch(ids(4, 5, 4), "h", "i"), 4: leaf("c"), 5: leaf("b"), 6: leaf("x"),
	})
	wantPages(t, d, 2, ids(2, 3, 4, 5, 8), api.OK)
	wantPages(t, d, 8, ids(4, 5, 8), api.OK)
	wantPages(t, d, 5, ids(5), api.OK)
}

func TestMoreWaysThanCouldBeGone(t *testing.T) {
	d := planted(t, 100, twofold(64, api.Node{}))
	all := ids()
	for id := range uint32(64) {
		all = append(all, 2+id)
	}
	wantPages(t, d, 2, all, api.OK)
	wantTree(t, d, 2, nil)
	// Of all ways to the leaf two are such that a key of it has its place there.
	d = planted(t, 100, twofold(64, leaf("a", "z")))
	wantPages(t, d, 2, all, api.OK)
	wantTree(t, d, 2, leaf("a", "z").Pairs)
	d = planted(t, 100, twofold(65, leaf("a", "z")))
	wantTorn(t, d, 2, "a")
	// Nor where each level has a key of its own.
	nodes := twofold(64, api.Node{})
	for i := range uint32(63) {
		nodes[2+i] = branch(ids(3+i, 3+i), fmt.Sprintf("%02d", i))
	}
	d = planted(t, 100, nodes)
	wantPages(t, d, 2, all, api.OK)
	wantTree(t, d, 2, nil)
}

func TestAllPagesThatThereCanBe(t *testing.T) {
	// The pages 2 to 16383: of a tree there can't be more.
	d := blank(t, 16384)
	root, pages, pairs := grown(t, d, 15835, 2)
	if len(pages) != 16382 || root != 16383 {
		t.Fatal(root, len(pages))
	}
	wantPages(t, d, root, pages, api.OK)
	wantRange(t, d, root, pairs[30000].K, "", 1000, pairs[30000:31000], api.OK)
	wantCursor(t, d, root, pairs[len(pairs)-3].K, pairs[len(pairs)-3:], api.OK)
	writeBytes(t, d, 9, wrongPages(t)["one changed byte"])
	wantPages(t, d, root, nil, api.ErrTree)
}

// P8.3, and the rules that hold everywhere.

// pagesOf is the pages that a work's root reaches: all below High that were neither let go nor are free.
func pagesOf(w *tree.Work, gone map[uint32]bool) []uint32 {
	for _, id := range w.Gone() {
		gone[id] = true
	}
	a := w.Alloc()
	var all []uint32
	for id := uint32(2); id < a.High; id++ {
		if !gone[id] && !slices.ContainsFunc(a.Spare, func(s api.Spare) bool { return s.Page == id }) {
			all = append(all, id)
		}
	}
	return all
}

// commit is what a work's root told.
type commit struct {
	root  uint32
	pairs []api.Pair
	pages []uint32
}

// wantCommit asks for what a root told.
func wantCommit(t *testing.T, d *disk.Disk, c commit, r *dice) {
	t.Helper()
	wantTree(t, d, c.root, c.pairs)
	wantPages(t, d, c.root, c.pages, api.OK)
	for range 30 {
		from, to := fmt.Sprint(r.roll(1000)), fmt.Sprint(r.roll(1000))
		if r.roll(4) == 0 {
			to = ""
		}
		most := []int{0, 1, 5, 20, 1000}[r.roll(5)]
		wantRange(t, d, c.root, from, to, most, within(c.pairs, from, to, most), api.OK)
		if r.roll(5) == 0 {
			wantCursor(t, d, c.root, from, within(c.pairs, from, "", 1000), api.OK)
		}
		// Two parts are the whole, wherever it is cut.
		if from < to {
			left, _ := cursor.Range(d, c.root, "", from, 1000)
			middle, _ := cursor.Range(d, c.root, from, to, 1000)
			right, _ := cursor.Range(d, c.root, to, "", 1000)
			if all := slices.Concat(left, middle, right); !slices.Equal(all, c.pairs) {
				t.Fatalf("cut at %q and %q: %s, want %s", from, to, brief(all), brief(c.pairs))
			}
		}
	}
}

func TestWhatAWorkHas(t *testing.T) {
	for seed := range dice(5) {
		r := seed
		d := blank(t, 3000)
		a, root, gone := api.Alloc{High: 2, Cap: 3000}, uint32(0), map[uint32]bool{}
		var all []commit
		for tx := uint64(2); tx < 12; tx++ {
			// Nothing that was let go is taken again: so each old root tells what it told.
			w, e := tree.Open(d, root, a, tx, 0)
			if e != api.OK {
				t.Fatal(e)
			}
			for range 80 {
				p := api.Pair{K: fmt.Sprint(r.roll(1000)), V: some(r.roll(61))}
				if r.roll(10) < []int{9, 7, 2}[tx%3] {
					e = w.Put(p)
				} else {
					_, e = w.Delete(p.K)
				}
				if e != api.OK {
					t.Fatal(e)
				}
			}
			pairs, _ := w.All()
			stored(t, d, w)
			a, root = w.Alloc(), w.Root()
			all = append(all, commit{root, pairs, pagesOf(w, gone)})
		}
		held := bytesOf(d)
		for _, c := range all {
			wantCommit(t, d, c, &r)
		}
		wantUnwritten(t, d, held)
	}
}

// strange is nodes of any kind in pages from 2 to 9, whose kids are some of these pages, whatever their keys are.
func strange(d *dice) map[uint32]api.Node {
	nodes := map[uint32]api.Node{}
	for id := uint32(2); id < 10; id++ {
		keys := words("bdfhjlnpr")[d.roll(4):][:d.roll(6)]
		if d.roll(4) == 0 || id > 7 {
			nodes[id] = leaf(words("abcdefghijklmnopqrs")[d.roll(12):][:d.roll(8)]...)
			continue
		}
		n := branch(nil, keys...)
		for range len(keys) + 1 {
			n.Kids = append(n.Kids, min(id+1+uint32(d.roll(4)), uint32(9+d.roll(60)/59)))
		}
		if d.roll(30) == 0 {
			n.Kids[0] = 2
		}
		nodes[id] = n
	}
	return nodes
}

// gathered is what Get tells of keys from one on, and less than another one, till so many are there, or an error is told.
func gathered(d *disk.Disk, from, to string, most int) ([]api.Pair, api.Errno) {
	var l []api.Pair
	for _, key := range append([]string{""}, words("abcdefghijklmnopqrst")...) {
		wanted := len(l) < most && (to == "" || key < to)
		// The way to from is needed even if nothing is wanted.
		if key < from || key > from && !wanted {
			continue
		}
		v, is, e := cursor.Get(d, 2, key)
		if e != api.OK {
			return l, e
		}
		if is && wanted {
			l = append(l, api.Pair{K: key, V: v})
		}
	}
	return l, api.OK
}

func TestWhateverStandsOnADisk(t *testing.T) {
	for seed := range dice(1000) {
		r := seed * 7919
		d := planted(t, 12, strange(&r))
		held := bytesOf(d)
		for range 10 {
			from, to := words("abcdefghijklmnopqrs")[r.roll(19)], words("abcdefghijklmnopqrs")[r.roll(19)]
			if r.roll(4) == 0 {
				from = ""
			}
			if r.roll(4) == 0 {
				to = ""
			}
			most := r.roll(12)
			want, fault := gathered(d, from, to, most)
			if fault != api.OK {
				want = nil
			}
			wantRange(t, d, 2, from, to, most, want, fault)
			want, fault = gathered(d, from, "", 1000)
			wantCursor(t, d, 2, from, want, fault)
		}
		if l, e := cursor.Pages(d, 2); e != api.OK && (e != api.ErrTree || len(l) > 0) || !slices.IsSorted(l) {
			t.Error(l, e)
		}
		wantUnwritten(t, d, held)
		if t.Failed() {
			t.Fatal(seed)
		}
	}
}

func TestCursorsOfOneDisk(t *testing.T) {
	d := twoLevels(t)
	pairs := leaf(words("bcdhipqr")...).Pairs
	a, b := open(t, d, 2, ""), open(t, d, 2, "d")
	for i, p := range pairs {
		wantNext(t, a, p)
		if i < len(pairs)-2 {
			wantNext(t, b, pairs[i+2])
		}
		wantRange(t, d, 2, "", "", 3, pairs[:3], api.OK)
	}
	wantNone(t, a, api.OK)
	wantNone(t, b, api.OK)
	wantCursor(t, d, 3, "b", leaf("z").Pairs, api.OK)
}

func TestAnswersAreTheSame(t *testing.T) {
	d := blank(t, 200)
	root, pages, pairs := grown(t, d, 60, 4)
	for range 3 {
		wantTree(t, d, root, pairs)
		wantPages(t, d, root, pages, api.OK)
	}
}

// fill writes over a list, and its spare room.
func fill[T any](l []T, by T) {
	l = l[:cap(l)]
	for i := range l {
		l[i] = by
	}
}

func TestAnswersShareNoList(t *testing.T) {
	d := blank(t, 200)
	root, pages, pairs := grown(t, d, 60, 4)
	c := open(t, d, root, "")
	for at := range 20 {
		first, _ := cursor.Range(d, root, pairs[at].K, "", 10)
		other, _ := cursor.Range(d, root, pairs[at].K, "", 10)
		reached, _ := cursor.Pages(d, root)
		again, _ := cursor.Pages(d, root)
		wantNext(t, c, pairs[at])
		fill(first, api.Pair{K: "x", V: "x"})
		fill(reached, 77)
		if !slices.Equal(other, pairs[at:at+10]) || !slices.Equal(again, pages) {
			t.Error("an answer was changed")
		}
		wantRange(t, d, root, "", "", 1000, pairs, api.OK)
		wantPages(t, d, root, pages, api.OK)
	}
	for _, p := range pairs[20:] {
		wantNext(t, c, p)
	}
	wantNone(t, c, api.OK)
}
