package cursor_test

import (
	"encoding/binary"
	"fmt"
	"reflect"
	"slices"
	"strings"
	"testing"

	"bazaar/api"
	"bazaar/cursor"
	"bazaar/disk"
	"bazaar/page"
	"bazaar/tree"
)

// dice is a fixed row of numbers.
type dice uint32

// roll is the next one, below n.
func (d *dice) roll(n int) int {
	*d = *d*1664525 + 1013904223
	return int(uint64(*d) * uint64(n) >> 32)
}

// some is n bytes.
func some(n int) string { return strings.Repeat("v", n) }

// leaf is a leaf of these keys, each of which is its own value, too.
func leaf(keys ...string) api.Node {
	var l api.Node
	for _, k := range keys {
		l.Pairs = append(l.Pairs, api.Pair{K: k, V: "v" + k})
	}
	return l
}

// branch is a branch of these kids, with these keys between.
func branch(kids []uint32, keys ...string) api.Node { return api.Node{Keys: keys, Kids: kids} }

// ids is a list of pages.
func ids(all ...uint32) []uint32 { return all }

// words is keys of one letter each.
func words(s string) []string { return strings.Split(s, "") }

// blank is a disk of so many pages.
func blank(t *testing.T, pages int) *disk.Disk {
	t.Helper()
	d, e := disk.New(pages * api.Sectors)
	if e != api.OK {
		t.Fatal(e)
	}
	return d
}

// write writes a page on a disk.
func write(t *testing.T, d *disk.Disk, p api.Page) {
	t.Helper()
	if e := page.Write(d, p); e != api.OK {
		t.Fatalf("Write of page %d: %d", p.Id, e)
	}
}

// writeBytes writes bytes where a page stands.
func writeBytes(t *testing.T, d *disk.Disk, id int, s string) {
	t.Helper()
	for i := range api.Sectors {
		if e := d.Write(id*api.Sectors+i, s[i*api.SectorSize:(i+1)*api.SectorSize]); e != api.OK {
			t.Fatal(id, e)
		}
	}
}

// body is a node's bytes as chapter 6 tells them.
func body(n api.Node) string {
	b := []byte{byte(len(n.Pairs) + len(n.Kids))}
	text := func(s string) { b = append(append(b, byte(len(s))), s...) }
	for _, p := range n.Pairs {
		text(p.K)
		text(p.V)
	}
	for i, kid := range n.Kids {
		if i > 0 {
			text(n.Keys[i-1])
		}
		b = binary.BigEndian.AppendUint32(b, kid)
	}
	return string(b)
}

// pageOf is a page that holds a node.
func pageOf(id uint32, n api.Node) api.Page {
	kind := api.PageLeaf
	if len(n.Kids) > 0 {
		kind = api.PageBranch
	}
	return api.Page{Kind: kind, Id: id, Tx: 3, Body: body(n)}
}

// planted is a disk of so many pages, on which these nodes stand.
func planted(t *testing.T, pages int, nodes map[uint32]api.Node) *disk.Disk {
	t.Helper()
	d := blank(t, pages)
	for id, n := range nodes {
		write(t, d, pageOf(id, n))
	}
	return d
}

// chain is branches of one kid each, one above the other, and a node: n pages, from page first on.
func chain(first uint32, n int, last api.Node) map[uint32]api.Node {
	nodes := map[uint32]api.Node{}
	for i := range uint32(n - 1) {
		nodes[first+i] = branch(ids(first + i + 1))
	}
	nodes[first+uint32(n)-1] = last
	return nodes
}

// twofold is n pages from page 2 on, each the two kids of the one ahead, with the key m between.
func twofold(n int, last api.Node) map[uint32]api.Node {
	nodes := chain(2, n, last)
	for i := range uint32(n - 1) {
		nodes[2+i] = branch(ids(3+i, 3+i), "m")
	}
	return nodes
}

// grown writes a tree of so many leaves, whose branches have 30 kids at most, on pages from 2 on; it tells the root, the pages, and the pairs: so many a leaf.
func grown(t *testing.T, d *disk.Disk, leaves, each int) (uint32, []uint32, []api.Pair) {
	t.Helper()
	var all, row []uint32
	var pairs []api.Pair
	var keys []string
	key := func(leaf int) string { return string([]byte{byte(leaf >> 8), byte(leaf)}) }
	plant := func(n api.Node) uint32 {
		id := uint32(2 + len(all))
		write(t, d, pageOf(id, n))
		all = append(all, id)
		return id
	}
	for i := range leaves {
		var k []string
		for j := range each {
			k = append(k, fmt.Sprintf("%s%x", key(i), j))
		}
		n := leaf(k...)
		pairs = append(pairs, n.Pairs...)
		row, keys = append(row, plant(n)), append(keys, key(i))
	}
	for len(row) > 1 {
		var above []uint32
		var least []string
		for at := 0; at < len(row); at += 30 {
			end := min(at+30, len(row))
			above = append(above, plant(branch(row[at:end], keys[at+1:end]...)))
			least = append(least, keys[at])
		}
		row, keys = above, least
	}
	return row[0], all, pairs
}

// wrongPages is bytes of page 9 that are no tree's page, told by what they are.
func wrongPages(t *testing.T) map[string]string {
	t.Helper()
	good := pageOf(9, leaf("h", "i"))
	all := map[string]string{"nothing": strings.Repeat("\x00", api.PageSize)}
	for name, p := range map[string]api.Page{
		"a free one":             {Kind: api.PageFree, Id: 9, Tx: 3, Body: good.Body},
		"a chunk":                {Kind: api.PageFree, Id: 9, Tx: 3, Body: "\x00\x00\x00\x00\x00"},
		"another one":            {Kind: api.PageLeaf, Id: 8, Tx: 3, Body: good.Body},
		"no bytes":               {Kind: api.PageLeaf, Id: 9, Tx: 3},
		"a byte too many":        {Kind: api.PageLeaf, Id: 9, Tx: 3, Body: good.Body + "\x00"},
		"a byte too few":         {Kind: api.PageLeaf, Id: 9, Tx: 3, Body: good.Body[:len(good.Body)-1]},
		"keys that do not rise":  {Kind: api.PageLeaf, Id: 9, Tx: 3, Body: body(leaf("i", "h"))},
		"a key of 25 bytes":      {Kind: api.PageLeaf, Id: 9, Tx: 3, Body: body(leaf("h" + some(24)))},
		"a leaf told a branch":   {Kind: api.PageBranch, Id: 9, Tx: 3, Body: good.Body},
		"a branch told a leaf":   {Kind: api.PageLeaf, Id: 9, Tx: 3, Body: body(branch(ids(3, 4), "i"))},
		"a branch of no kids":    {Kind: api.PageBranch, Id: 9, Tx: 3, Body: "\x00"},
		"a branch of the page 0": {Kind: api.PageBranch, Id: 9, Tx: 3, Body: body(branch(ids(0)))},
		"a branch of the page 1": {Kind: api.PageBranch, Id: 9, Tx: 3, Body: body(branch(ids(3, 1), "i"))},
		"a kid past all pages":   {Kind: api.PageBranch, Id: 9, Tx: 3, Body: body(branch(ids(16384)))},
		"a kid that is none":     {Kind: api.PageBranch, Id: 9, Tx: 3, Body: body(branch(ids(50)))},
		"a kid past the disk":    {Kind: api.PageBranch, Id: 9, Tx: 3, Body: body(branch(ids(16383)))},
	} {
		s, e := page.Encode(p)
		if e != api.OK {
			t.Fatal(name, e)
		}
		all[name] = s
	}
	s, _ := page.Encode(good)
	all["one changed byte"] = s[:20] + "x" + s[21:]
	return all
}

// bytesOf is all bytes of a disk, and what it tells.
func bytesOf(d *disk.Disk) []any {
	all := []any{d.Ops(), d.Unsynced()}
	for i := range d.Sectors() {
		s, e := d.Read(i)
		all = append(all, s, e)
	}
	return all
}

// wantUnwritten asks a disk for what it held.
func wantUnwritten(t *testing.T, d *disk.Disk, held []any) {
	t.Helper()
	if !reflect.DeepEqual(bytesOf(d), held) {
		t.Error("the disk was written")
	}
}

// brief is a value in a failing test's words.
func brief(v any) string {
	s := fmt.Sprintf("%+q", fmt.Sprint(v))
	return s[:min(len(s), 600)]
}

// wantGet asks Get for this.
func wantGet(t *testing.T, d *disk.Disk, root uint32, key, want string, there bool, fault api.Errno) {
	t.Helper()
	if v, is, e := cursor.Get(d, root, key); v != want || is != there || e != fault {
		t.Errorf("Get(%d, %q): %q, %v, %d, want %q, %v, %d", root, key, v, is, e, want, there, fault)
	}
}

// wantRange asks Range for these pairs, or for an error and none.
func wantRange(t *testing.T, d *disk.Disk, root uint32, from, to string, most int, want []api.Pair, fault api.Errno) {
	t.Helper()
	if l, e := cursor.Range(d, root, from, to, most); !slices.Equal(l, want) || e != fault {
		t.Errorf("Range(%d, %q, %q, %d): %s, %d, want %s, %d", root, from, to, most, brief(l), e, brief(want), fault)
	}
}

// wantPages asks Pages for these pages, or for an error and none.
func wantPages(t *testing.T, d *disk.Disk, root uint32, want []uint32, fault api.Errno) {
	t.Helper()
	if l, e := cursor.Pages(d, root); !slices.Equal(l, want) || e != fault {
		t.Errorf("Pages(%d): %s, %d, want %s, %d", root, brief(l), e, brief(want), fault)
	}
}

// open is a cursor.
func open(t *testing.T, d *disk.Disk, root uint32, from string) *cursor.Cursor {
	t.Helper()
	c, e := cursor.Open(d, root, from)
	if c == nil || e != api.OK {
		t.Fatalf("Open(%d, %q): %v, %d", root, from, c, e)
	}
	return c
}

// wantNext asks a cursor for a pair.
func wantNext(t *testing.T, c *cursor.Cursor, want api.Pair) {
	t.Helper()
	if p, is, e := c.Next(); p != want || !is || e != api.OK {
		t.Fatalf("Next: %q, %v, %d, want %q", p, is, e, want)
	}
}

// wantNone asks a cursor, again and again, for no pair and this error.
func wantNone(t *testing.T, c *cursor.Cursor, fault api.Errno) {
	t.Helper()
	for range 3 {
		if p, is, e := c.Next(); p != (api.Pair{}) || is || e != fault {
			t.Fatalf("Next: %q, %v, %d, want none, %d", p, is, e, fault)
		}
		if fault == api.ErrTree {
			fault = api.ErrCursor
		}
	}
}

// wantCursor asks a cursor that is opened at a key for these pairs, one by one, and then for none and this error.
func wantCursor(t *testing.T, d *disk.Disk, root uint32, from string, want []api.Pair, fault api.Errno) {
	t.Helper()
	c := open(t, d, root, from)
	for _, p := range want {
		wantNext(t, c, p)
	}
	wantNone(t, c, fault)
}

// wantTorn asks all calls for ErrTree, of a key on whose way a page is wrong.
func wantTorn(t *testing.T, d *disk.Disk, root uint32, key string) {
	t.Helper()
	wantGet(t, d, root, key, "", false, api.ErrTree)
	for _, to := range []string{"", key, "\x00", key + "z"} {
		for _, most := range []int{0, 1, 1000} {
			wantRange(t, d, root, key, to, most, nil, api.ErrTree)
		}
	}
	wantPages(t, d, root, nil, api.ErrTree)
	wantCursor(t, d, root, key, nil, api.ErrTree)
}

// within is the first most of the pairs whose keys are at least from, and less than to.
func within(pairs []api.Pair, from, to string, most int) []api.Pair {
	var l []api.Pair
	for _, p := range pairs {
		if p.K >= from && (to == "" || p.K < to) && len(l) < most {
			l = append(l, p)
		}
	}
	return l
}

// wantTree asks all calls that tell pairs for these, in parts and one by one.
func wantTree(t *testing.T, d *disk.Disk, root uint32, pairs []api.Pair) {
	t.Helper()
	from, parts := "", []api.Pair(nil)
	for {
		l, e := cursor.Range(d, root, from, "", 7)
		if parts = append(parts, l...); len(l) < 7 || e != api.OK {
			break
		}
		from = l[6].K + "\x00"
	}
	if !slices.Equal(parts, pairs) {
		t.Fatalf("parts of a range: %s, want %s", brief(parts), brief(pairs))
	}
	wantRange(t, d, root, "", "", 1000, within(pairs, "", "", 1000), api.OK)
	wantCursor(t, d, root, "", pairs, api.OK)
	for i, p := range pairs {
		wantGet(t, d, root, p.K, p.V, true, api.OK)
		if i+1 == len(pairs) || pairs[i+1].K != p.K+"\x00" {
			wantGet(t, d, root, p.K+"\x00", "", false, api.OK)
		}
	}
}

// stored writes a work's pages on its disk.
func stored(t *testing.T, d *disk.Disk, w *tree.Work) {
	t.Helper()
	for _, p := range w.Pages() {
		write(t, d, p)
	}
}
