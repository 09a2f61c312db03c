package tree_test

import (
	"encoding/binary"
	"fmt"
	"maps"
	"reflect"
	"slices"
	"strings"
	"testing"

	"bazaar/api"
	"bazaar/disk"
	"bazaar/node"
	"bazaar/page"
	"bazaar/tree"
)

// dice is a fixed row of numbers.
type dice uint32

// roll is the next one, below n.
func (d *dice) roll(n int) int {
	*d = *d*1664525 + 1013904223
	return int(uint64(*d) * uint64(n) >> 32)
}

// some is n bytes.
func some(n int) string { return strings.Repeat("v", n) }

// pad is a key of n bytes, that stands where k does among keys without points.
func pad(k string, n int) string { return k + strings.Repeat(".", n-len(k)) }

// pair is a pair whose value has n bytes.
func pair(k string, n int) api.Pair { return api.Pair{K: k, V: some(n)} }

// leaf is a leaf of these keys, whose values have n bytes each.
func leaf(n int, keys ...string) api.Node {
	var l api.Node
	for _, k := range keys {
		l.Pairs = append(l.Pairs, pair(k, n))
	}
	return l
}

// branch is a branch of these kids, with these keys between.
func branch(kids []uint32, keys ...string) api.Node { return api.Node{Keys: keys, Kids: kids} }

// ids is a list of pages.
func ids(all ...uint32) []uint32 { return all }

// words is keys of one letter each.
func words(s string) []string { return strings.Split(s, "") }

// blank is a disk of so many pages.
func blank(t *testing.T, pages int) *disk.Disk {
	t.Helper()
	d, e := disk.New(pages * api.Sectors)
	if e != api.OK {
		t.Fatal(e)
	}
	return d
}

// write writes a page on a disk.
func write(t *testing.T, d *disk.Disk, p api.Page) {
	t.Helper()
	if e := page.Write(d, p); e != api.OK {
		t.Fatalf("Write of page %d: %d", p.Id, e)
	}
}

// body is a node's bytes as chapter 6 tells them.
func body(n api.Node) string {
	if len(n.Kids) == 0 {
		b := []byte{byte(len(n.Pairs))}
		for _, p := range n.Pairs {
			b = append(append(b, byte(len(p.K))), p.K...)
			b = append(append(b, byte(len(p.V))), p.V...)
		}
		return string(b)
	}
	b := binary.BigEndian.AppendUint32([]byte{byte(len(n.Kids))}, n.Kids[0])
	for i, key := range n.Keys {
		b = append(append(b, byte(len(key))), key...)
		b = binary.BigEndian.AppendUint32(b, n.Kids[i+1])
	}
	return string(b)
}

// pageOf is a page that holds a node.
func pageOf(id uint32, tx uint64, n api.Node) api.Page {
	kind := api.PageLeaf
	if len(n.Kids) > 0 {
		kind = api.PageBranch
	}
	return api.Page{Kind: kind, Id: id, Tx: tx, Body: body(n)}
}

// planted is a disk of so many pages, on which nodes stand as pages of the transaction 3.
func planted(t *testing.T, pages int, nodes map[uint32]api.Node) *disk.Disk {
	t.Helper()
	d := blank(t, pages)
	for id, n := range nodes {
		write(t, d, pageOf(id, 3, n))
	}
	if e := d.Sync(); e != api.OK {
		t.Fatal(e)
	}
	return d
}

// of is an alloc.
func of(high, most uint32, l ...api.Spare) api.Alloc {
	return api.Alloc{High: high, Cap: most, Spare: l}
}

// spares is n spares of one transaction, from a page on.
func spares(page uint32, n int, tx uint64) []api.Spare {
	var l []api.Spare
	for i := range n {
		l = append(l, api.Spare{Page: page + uint32(i), Tx: tx})
	}
	return l
}

// open is a work of the transaction 5; 4 is the oldest one.
func open(t *testing.T, d *disk.Disk, root uint32, a api.Alloc) *tree.Work {
	t.Helper()
	w, e := tree.Open(d, root, a, 5, 4)
	if e != api.OK || w == nil {
		t.Fatalf("Open(%d, %v): %d", root, a, e)
	}
	return w
}

// put puts a pair.
func put(t *testing.T, w *tree.Work, p api.Pair) {
	t.Helper()
	if e := w.Put(p); e != api.OK {
		t.Fatalf("Put(%q): %d", p.K, e)
	}
}

// remove deletes a pair that is there.
func remove(t *testing.T, w *tree.Work, key string) {
	t.Helper()
	if was, e := w.Delete(key); !was || e != api.OK {
		t.Fatalf("Delete(%q): %v, %d", key, was, e)
	}
}

// state is what a work tells of it.
type state struct {
	Root  uint32
	Alloc api.Alloc
	Gone  []uint32
	Pages []api.Page
}

// stateOf is a work's, in other memory than what it answers.
func stateOf(w *tree.Work) state {
	s := state{Root: w.Root(), Alloc: w.Alloc(), Gone: slices.Clone(w.Gone()), Pages: slices.Clone(w.Pages())}
	s.Alloc.Spare = slices.Clone(s.Alloc.Spare)
	return s
}

// brief is a value in a failing test's words.
func brief(v any) string {
	s := fmt.Sprintf("%+q", fmt.Sprint(v))
	return s[:min(len(s), 600)]
}

// wantState asks a work to tell this of it; nil and empty lists are one.
func wantState(t *testing.T, w *tree.Work, want state) {
	t.Helper()
	got := stateOf(w)
	a, b := got.Alloc, want.Alloc
	same := got.Root == want.Root && a.High == b.High && a.Cap == b.Cap && slices.Equal(a.Spare, b.Spare)
	if !same || !slices.Equal(got.Gone, want.Gone) || !slices.Equal(got.Pages, want.Pages) {
		t.Errorf("a work of\n%s\nwant\n%s", brief(got), brief(want))
	}
}

// wantPairs asks a work for these pairs, one by one too.
func wantPairs(t *testing.T, w *tree.Work, want []api.Pair) {
	t.Helper()
	got, e := w.All()
	if e != api.OK || !slices.Equal(got, want) {
		t.Errorf("All: %s, %d, want %s", brief(got), e, brief(want))
	}
	for _, p := range want {
		if v, is, e := w.Get(p.K); v != p.V || !is || e != api.OK {
			t.Errorf("Get(%q): %q, %v, %d, want %q", p.K, v, is, e, p.V)
		}
	}
}

// walk is what a work's root reaches.
type walk struct {
	t      *testing.T
	disk   *disk.Disk
	own    map[uint32]api.Page
	pages  []uint32
	pairs  []api.Pair
	leaves []int
}

// walked goes through all that a work's root reaches.
func walked(t *testing.T, d *disk.Disk, w *tree.Work) (*walk, string) {
	t.Helper()
	k := &walk{t: t, disk: d, own: map[uint32]api.Page{}}
	for _, p := range w.Pages() {
		k.own[p.Id] = p
	}
	if w.Root() == 0 {
		return k, ""
	}
	return k, k.tell(w.Root(), "", "", 1)
}

// node is a page's.
func (k *walk) node(id uint32) api.Node {
	k.t.Helper()
	p, own := k.own[id]
	if !own {
		var e api.Errno
		if p, e = page.Read(k.disk, id); e != api.OK {
			k.t.Fatalf("page %d: %d", id, e)
		}
	}
	n, e := node.Decode(p.Kind, p.Body)
	if e != api.OK || len(p.Body) > api.MaxBody {
		k.t.Fatalf("the node of page %d, kind %d, %q: %d", id, p.Kind, p.Body, e)
	}
	return n
}

// tell tells of a page, whose keys are from low on, and less than high, and of those below it: a leaf's keys in (), a branch's kids and keys in [].
func (k *walk) tell(id uint32, low, high string, level int) string {
	k.t.Helper()
	n := k.node(id)
	k.pages = append(k.pages, id)
	var all []string
	if len(n.Kids) == 0 {
		k.leaves = append(k.leaves, level)
		k.pairs = append(k.pairs, n.Pairs...)
		for _, p := range n.Pairs {
			if p.K < low || high != "" && p.K >= high {
				k.t.Fatalf("key %q of page %d is not from %q to %q", p.K, id, low, high)
			}
			all = append(all, strings.TrimRight(p.K, "."))
		}
		return "(" + strings.Join(all, " ") + ")"
	}
	bounds := append(append([]string{low}, n.Keys...), high)
	for i, kid := range n.Kids {
		if i > 0 {
			all = append(all, strings.TrimRight(n.Keys[i-1], "."))
		}
		all = append(all, k.tell(kid, bounds[i], bounds[i+1], level+1))
	}
	return "[" + strings.Join(all, " ") + "]"
}

// wantShape asks for a tree of this shape.
func wantShape(t *testing.T, d *disk.Disk, w *tree.Work, want string) {
	t.Helper()
	k, got := walked(t, d, w)
	if got != want {
		t.Errorf("a tree\n%s\nwant\n%s", got, want)
	}
	wantPairs(t, w, k.pairs)
}

// wantWhole asks that what is reached, let go and free are all pages below High, each once, that all leaves are as high, and that pages of the work carry its transaction.
func wantWhole(t *testing.T, d *disk.Disk, w *tree.Work, tx uint64) {
	t.Helper()
	k, _ := walked(t, d, w)
	s := stateOf(w)
	all := slices.Concat(k.pages, s.Gone)
	for _, x := range s.Alloc.Spare {
		all = append(all, x.Page)
	}
	slices.Sort(all)
	var want []uint32
	for id := uint32(2); id < s.Alloc.High; id++ {
		want = append(want, id)
	}
	if !slices.Equal(all, want) {
		t.Fatalf("reached %s, gone %s, free %s, High %d", brief(k.pages), brief(s.Gone), brief(s.Alloc.Spare), s.Alloc.High)
	}
	for _, level := range k.leaves {
		if level != k.leaves[0] {
			t.Fatalf("leaves of the levels %s", brief(k.leaves))
		}
	}
	if !slices.IsSorted(s.Gone) || !slices.IsSortedFunc(k.pairs, func(a, b api.Pair) int { return strings.Compare(a.K, b.K) }) {
		t.Fatalf("gone %s, pairs %s", brief(s.Gone), brief(k.pairs))
	}
	at := uint32(0)
	for _, p := range s.Pages {
		if p.Id <= at || p.Tx != tx || !page.Right(p) || !slices.Contains(k.pages, p.Id) {
			t.Fatalf("a page of the work: %v", p)
		}
		at = p.Id
	}
}

// bytesOf is all bytes of a disk, and what it tells.
func bytesOf(d *disk.Disk) []any {
	all := []any{d.Ops(), d.Unsynced()}
	for i := range d.Sectors() {
		s, e := d.Read(i)
		all = append(all, s, e)
	}
	return all
}

// wantUnwritten asks a disk for what it held.
func wantUnwritten(t *testing.T, d *disk.Disk, held []any) {
	t.Helper()
	if !reflect.DeepEqual(bytesOf(d), held) {
		t.Error("the disk was written")
	}
}

// stored writes a work's pages on its disk, and is the alloc of the next transaction: what was let go is free then.
func stored(t *testing.T, d *disk.Disk, w *tree.Work, tx uint64) api.Alloc {
	t.Helper()
	for _, p := range w.Pages() {
		write(t, d, p)
	}
	a := w.Alloc()
	for _, id := range w.Gone() {
		a.Spare = append(a.Spare, api.Spare{Page: id, Tx: tx})
	}
	slices.SortFunc(a.Spare, func(x, y api.Spare) int { return int(x.Page) - int(y.Page) })
	return a
}

// sorted is a map's pairs, their keys rising.
func sorted(m map[string]string) []api.Pair {
	var l []api.Pair
	for _, k := range slices.Sorted(maps.Keys(m)) {
		l = append(l, api.Pair{K: k, V: m[k]})
	}
	return l
}
