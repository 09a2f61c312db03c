package txn_test

import (
	"fmt"
	"math"
	"slices"
	"testing"

	"bazaar/api"
	"bazaar/disk"
	"bazaar/meta"
	"bazaar/page"
	"bazaar/txn"
)

// P9.1: disks that are formatted.

func TestFormat(t *testing.T) {
	want(t, "Format of none", txn.Format(nil), api.ErrNil)
	for _, n := range []int{1, 4, 5, 8, 30, 31} {
		d := sectors(t, n)
		want(t, "Format", txn.Format(d), api.ErrArg)
		if d.Ops() != 0 || len(d.Unsynced()) > 0 {
			t.Errorf("of %d sectors: %d writes and syncs", n, d.Ops())
		}
	}
	first := metaBytes(api.Meta{Tx: 1, High: 2})
	for _, n := range []int{32, 33, 35, 36, 200, 65536} {
		d := sectors(t, n)
		must(t, d.Write(0, some(64)))
		must(t, d.Write(4, some(64)))
		must(t, d.Write(9, "kept"))
		must(t, txn.Format(d))
		if u := d.Unsynced(); len(u) > 0 {
			t.Errorf("unsynced: %v", u)
		}
		must(t, d.Crash(nil))
		for i, s := range bytesOf(t, d) {
			wanted := map[int]string{4: first, 9: full("kept")}[i]
			if s != full(wanted) {
				t.Errorf("sector %d of %d: %q", i, n, s)
			}
		}
		wantState(t, opened(t, d), state{api.Meta{Tx: 1, High: 2}, api.Alloc{High: 2, Cap: uint32(n / 4)}, nil})
	}
}

func TestFormatAnew(t *testing.T) {
	d, b := fresh(t, 20)
	commits(t, b, pairs(words("abcdef")...)...)
	must(t, txn.Format(d))
	b = opened(t, d)
	wantState(t, b, state{api.Meta{Tx: 1, High: 2}, api.Alloc{High: 2, Cap: 20}, nil})
	commits(t, b, pair("x"))
	wantPairs(t, d, b, pairs("x"))
	wantWhole(t, d, b)
}

// P9.1: disks that are opened.

func TestOpenNone(t *testing.T) {
	for _, c := range []struct {
		d *disk.Disk
		e api.Errno
	}{
		{nil, api.ErrNil},
		{sectors(t, 1), api.ErrSector},
		{sectors(t, 4), api.ErrSector},
		{sectors(t, 5), api.ErrMeta},
		{blank(t, 8), api.ErrMeta},
		{sectors(t, 65536), api.ErrMeta},
	} {
		if b, e := txn.Open(c.d); b != nil || e != c.e {
			t.Errorf("of %d sectors: %v, %d; not %d", c.d.Sectors(), b, e, c.e)
		}
	}
	// A meta in the other one's place is none.
	d := blank(t, 8)
	must(t, d.Write(0, metaBytes(api.Meta{Tx: 1, High: 2})))
	must(t, d.Write(4, metaBytes(api.Meta{Tx: 2, High: 2})))
	if _, e := txn.Open(d); e != api.ErrMeta {
		t.Error(e)
	}
}

func TestOpenWritesNothing(t *testing.T) {
	d, b := fresh(t, 40)
	commits(t, b, pairs(words("abcdefgh")...)...)
	ops := d.Ops()
	c := opened(t, d)
	wantState(t, c, stateOf(b))
	begun(t, c)
	puts(t, c, pair("x"))
	deletes(t, c, "a", "b")
	must(t, c.Rollback())
	begun(t, c)
	reader(t, c, 1)
	if d.Ops() != ops || len(d.Unsynced()) > 0 {
		t.Errorf("%d writes and syncs ahead of a commit", d.Ops()-ops)
	}
}

func TestHowManyPages(t *testing.T) {
	for n, most := range map[int]uint32{32: 8, 33: 8, 34: 8, 35: 8, 36: 9, 39: 9, 1000: 250, 65535: 16383, 65536: 16384} {
		d := sectors(t, n)
		must(t, txn.Format(d))
		if a := opened(t, d).Alloc(); a.Cap != most || a.High != 2 || len(a.Spare) > 0 {
			t.Errorf("of %d sectors: %v", n, a)
		}
	}
	// No disk has more than 16384 pages; one of fewer than 8 may be opened, if it has a meta.
	if d, e := disk.New(65537); d != nil || e != api.ErrArg {
		t.Error(e)
	}
	d := planted(t, 2, api.Meta{Tx: 1, High: 2})
	wantState(t, opened(t, d), state{api.Meta{Tx: 1, High: 2}, api.Alloc{High: 2, Cap: 2}, nil})
	// High is the end of the disk, or behind it.
	for high, e := range map[uint32]api.Errno{10: api.OK, 11: api.ErrTree, 12: api.ErrTree, 16384: api.ErrTree} {
		d := sectors(t, 43)
		must(t, meta.Store(d, api.Meta{Tx: 1, High: high}))
		if b, got := txn.Open(d); got != e || (b == nil) != (e != api.OK) {
			t.Errorf("High %d: %d", high, got)
		}
	}
	d = sectors(t, 5)
	must(t, meta.Store(d, api.Meta{Tx: 1, High: 2}))
	if b, e := txn.Open(d); b != nil || e != api.ErrTree {
		t.Errorf("of one page: %d", e)
	}
}

// The last commit is the one with the greater Tx, in either place.
func TestOpenTheLastCommit(t *testing.T) {
	d := planted(t, 10, api.Meta{Tx: 7, High: 3})
	must(t, meta.Store(d, api.Meta{Tx: 8, High: 4}))
	if m := opened(t, d).Meta(); m != (api.Meta{Tx: 8, High: 4}) {
		t.Error(m)
	}
	must(t, meta.Store(d, api.Meta{Tx: 9, High: 5}))
	if m := opened(t, d).Meta(); m != (api.Meta{Tx: 9, High: 5}) {
		t.Error(m)
	}
}

func TestOpenChunks(t *testing.T) {
	for _, n := range []int{0, 1, 18, 19, 20, 38, 39, 1000, 4095, 4096} {
		l := spares(2, n, 5)
		first := uint32(2 + n)
		all := chain(first, l)
		m := api.Meta{Tx: 6, High: first + uint32(len(all))}
		if len(all) > 0 {
			m.Free = first
		}
		d := planted(t, int(m.High)+7, m, all...)
		b := opened(t, d)
		wantState(t, b, state{m, api.Alloc{High: m.High, Cap: m.High + 7, Spare: l}, idsOf(all)})
		wantWhole(t, d, b)
	}
	// Chunks in any order, some with fewer spares than they have room for, or with none.
	d := planted(t, 12, api.Meta{Tx: 6, High: 12, Free: 9},
		chunkPage(9, 4), chunkPage(4, 10, spares(2, 2, 3)...), chunkPage(10, 5), chunkPage(5, 0, spares(6, 3, 4)...))
	l := append(spares(2, 2, 3), spares(6, 3, 4)...)
	wantState(t, opened(t, d), state{api.Meta{Tx: 6, High: 12, Free: 9}, api.Alloc{High: 12, Cap: 12, Spare: l}, ids(9, 4, 10, 5)})
}

// wantNoChunks wants a disk of 40 pages, of High 30, to be refused whose chunks begin on page 10.
func wantNoChunks(t *testing.T, what string, all ...api.Page) {
	t.Helper()
	d := planted(t, 40, api.Meta{Tx: 6, High: 30, Free: 10}, all...)
	if b, e := txn.Open(d); b != nil || e != api.ErrTree {
		t.Errorf("%s: %v, %d", what, b, e)
	}
}

func TestChunksThatAreNone(t *testing.T) {
	wantNoChunks(t, "no page")
	for _, next := range ids(1, 9, 11, 39, 40, 16383, 16384, 1<<30, 1<<30+10, math.MaxUint32) {
		wantNoChunks(t, "no next one", chunkPage(10, next, spares(2, 3, 1)...))
	}
	for _, kind := range []int{api.PageLeaf, api.PageBranch} {
		other := chunkPage(10, 0, spares(2, 3, 1)...)
		other.Kind = kind
		wantNoChunks(t, "another kind", other)
		other.Id = 11
		wantNoChunks(t, "another kind behind", chunkPage(10, 11), other)
	}
	wantNoChunks(t, "a leaf", api.Page{Kind: api.PageLeaf, Id: 10, Tx: 1, Body: "\x01\x01a\x00"})
	body := chunkBody(0, spares(2, 3, 1)...)
	for _, wrong := range []string{"", body[:4], body[:len(body)-1], body + "\x00", "\x00\x00\x00\x00\x01", "\x00\x00\x00\x00\x14" + some(232)} {
		wantNoChunks(t, "no chunk's bytes", api.Page{Kind: api.PageFree, Id: 10, Tx: 1, Body: wrong})
		wantNoChunks(t, "no chunk's bytes behind", chunkPage(10, 11), api.Page{Kind: api.PageFree, Id: 11, Tx: 1, Body: wrong})
	}
}

func TestChunksOfWhichOneByteIsWrong(t *testing.T) {
	all := chain(10, spares(11, 19, 5))
	s, e := page.Encode(all[0])
	must(t, e)
	for i := range s {
		d := planted(t, 40, api.Meta{Tx: 6, High: 30, Free: 10}, all...)
		part := []byte(s[i/64*64:][:64])
		part[i%64]++
		must(t, d.Write(40+i/64, string(part)))
		if _, e := txn.Open(d); e != api.ErrTree {
			t.Errorf("byte %d: %d", i, e)
		}
	}
	// The bytes of a chunk, but in another one's place.
	d := planted(t, 40, api.Meta{Tx: 6, High: 30, Free: 10})
	s, e = page.Encode(chunkPage(11, 0))
	must(t, e)
	for i := range 4 {
		must(t, d.Write(40+i, s[64*i:][:64]))
	}
	if _, e := txn.Open(d); e != api.ErrTree {
		t.Error(e)
	}
}

func TestChunksInACircle(t *testing.T) {
	wantNoChunks(t, "one", chunkPage(10, 10))
	wantNoChunks(t, "one with spares", chunkPage(10, 10, spares(2, 3, 1)...))
	wantNoChunks(t, "two", chunkPage(10, 11), chunkPage(11, 10))
	wantNoChunks(t, "two with spares", chunkPage(10, 11, spares(2, 3, 1)...), chunkPage(11, 10, spares(5, 3, 1)...))
	wantNoChunks(t, "two behind one", chunkPage(10, 11, spares(2, 3, 1)...), chunkPage(11, 12), chunkPage(12, 11))
	// As many chunks as there may be go round in no circle, and are all.
	var all []api.Page
	var wanted []uint32
	for id := uint32(2); id < 16384; id++ {
		all = append(all, chunkPage(id, (id+1)%16384))
		wanted = append(wanted, id)
	}
	m := api.Meta{Tx: 6, High: 16384, Free: 2}
	wantState(t, opened(t, planted(t, 16384, m, all...)), state{m, api.Alloc{High: 16384, Cap: 16384}, wanted})
	all[len(all)-1] = chunkPage(16383, 2)
	if _, e := txn.Open(planted(t, 16384, m, all...)); e != api.ErrTree {
		t.Error(e)
	}
}

func TestSparesThatMakeNoAlloc(t *testing.T) {
	of := func(page uint32, tx uint64) api.Spare { return api.Spare{Page: page, Tx: tx} }
	for what, l := range map[string][]api.Spare{
		"page 0":              {of(0, 1)},
		"page 1":              {of(1, 1)},
		"page High":           {of(30, 1)},
		"a page behind High":  {of(2, 1), of(31, 1)},
		"a great page":        {of(2, 1), of(math.MaxUint32, 1)},
		"Tx 0":                {of(2, 1), of(3, 0)},
		"a page twice":        {of(2, 1), of(2, 2)},
		"pages that fall":     {of(5, 1), of(4, 1)},
		"pages that fall far": {of(5, 1), of(6, 1), of(7, 1), of(2, 1)},
	} {
		wantNoChunks(t, what, chunkPage(10, 0, l...))
		var all []api.Page
		for i, s := range l {
			next := uint32(11 + i)
			if i == len(l)-1 {
				next = 0
			}
			all = append(all, chunkPage(uint32(10+i), next, s))
		}
		wantNoChunks(t, what+", each in a chunk of its own", all...)
	}
	// 4097 spares are too many.
	all := chain(5000, spares(2, 4097, 1))
	if _, e := txn.Open(planted(t, 6000, api.Meta{Tx: 6, High: 6000, Free: 5000}, all...)); e != api.ErrTree {
		t.Error(e)
	}
}

// P9.1 and P9.2: no database, and none of a call.

func TestNoDatabase(t *testing.T) {
	for _, b := range []*txn.DB{nil, {}} {
		for _, c := range calls(1) {
			wantRefused(t, c, b, api.ErrNil)
		}
		wantState(t, b, state{})
	}
}

// P9.1: one transaction that writes.

func TestTheExample(t *testing.T) {
	_, b := fresh(t, 20)
	begun(t, b)
	puts(t, b, pair("a"))
	must(t, b.Commit())
	reader(t, b, 1)
	begun(t, b)
	deletes(t, b, "a")
	must(t, b.Commit())
	wantReadGet(t, b, 1, "a", pair("a").V, true, api.OK)
	reader(t, b, 2)
	wantReadGet(t, b, 2, "a", "", false, api.OK)
}

// wantGet wants the transaction to tell so of a key.
func wantGet(t *testing.T, b *txn.DB, key, value string, is bool, e api.Errno) {
	t.Helper()
	if v, i, got := b.Get(key); v != value || i != is || got != e {
		t.Errorf("Get %q: %q, %v, %d; not %q, %v, %d", key, v, i, got, value, is, e)
	}
}

// wantRange wants the transaction to tell these pairs.
func wantRange(t *testing.T, b *txn.DB, from, to string, most int, l []api.Pair, e api.Errno) {
	t.Helper()
	if got, ge := b.Range(from, to, most); !slices.Equal(got, l) || ge != e {
		t.Errorf("Range %q to %q, %d: %v, %d; not %v, %d", from, to, most, got, ge, l, e)
	}
}

// wantReadGet wants a reader to tell so of a key.
func wantReadGet(t *testing.T, b *txn.DB, number int, key, value string, is bool, e api.Errno) {
	t.Helper()
	if v, i, got := b.ReadGet(number, key); v != value || i != is || got != e {
		t.Errorf("ReadGet of %d, %q: %q, %v, %d; not %q, %v, %d", number, key, v, i, got, value, is, e)
	}
}

// wantReadRange wants a reader to tell these pairs.
func wantReadRange(t *testing.T, b *txn.DB, number int, from, to string, most int, l []api.Pair, e api.Errno) {
	t.Helper()
	if got, ge := b.ReadRange(number, from, to, most); !slices.Equal(got, l) || ge != e {
		t.Errorf("ReadRange of %d, %q to %q, %d: %v, %d; not %v, %d", number, from, to, most, got, ge, l, e)
	}
}

func TestOneTransaction(t *testing.T) {
	d, b := fresh(t, 60)
	commits(t, b, pairs("b", "d")...)
	begun(t, b)
	want(t, "Begin", b.Begin(), api.ErrBusy)
	puts(t, b, pair("a"), api.Pair{K: "d", V: "other"}, api.Pair{K: "e"}, pair("c"))
	deletes(t, b, "b")
	want(t, "Begin", b.Begin(), api.ErrBusy)
	if is, e := b.Delete("b"); is || e != api.OK {
		t.Errorf("Delete: %v, %d", is, e)
	}
	wantGet(t, b, "a", pair("a").V, true, api.OK)
	wantGet(t, b, "b", "", false, api.OK)
	wantGet(t, b, "d", "other", true, api.OK)
	wantGet(t, b, "e", "", true, api.OK)
	l := []api.Pair{pair("a"), pair("c"), {K: "d", V: "other"}, {K: "e"}}
	wantRange(t, b, "", "", 1000, l, api.OK)
	// The last commit is what it was, till the next one.
	wantPairs(t, d, b, pairs("b", "d"))
	must(t, b.Commit())
	wantPairs(t, d, b, l)
	wantWhole(t, d, b)
	wantState(t, opened(t, d), stateOf(b))
}

func TestNoTransaction(t *testing.T) {
	d, b := fresh(t, 20)
	wantNoTx := func() {
		t.Helper()
		want(t, "Commit", b.Commit(), api.ErrNoTx)
		want(t, "Rollback", b.Rollback(), api.ErrNoTx)
		for _, k := range []string{"", "a", some(25)} {
			wantGet(t, b, k, "", false, api.ErrNoTx)
			want(t, "Put", b.Put(api.Pair{K: k, V: some(61)}), api.ErrNoTx)
			if is, e := b.Delete(k); is || e != api.ErrNoTx {
				t.Errorf("Delete: %v, %d", is, e)
			}
			for _, most := range []int{-1, 0, 1, 1000, 1001} {
				wantRange(t, b, k, "", most, nil, api.ErrNoTx)
			}
		}
	}
	wantNoTx()
	begun(t, b)
	must(t, b.Commit())
	wantNoTx()
	begun(t, b)
	puts(t, b, pair("a"))
	must(t, b.Rollback())
	wantNoTx()
	commits(t, b, pair("b"))
	wantNoTx()
	wantPairs(t, d, b, pairs("b"))
}

func TestNoNextTransaction(t *testing.T) {
	last := api.Meta{Tx: math.MaxUint64, High: 2}
	b := opened(t, planted(t, 20, last))
	want(t, "Begin", b.Begin(), api.ErrArg)
	want(t, "Put", b.Put(pair("a")), api.ErrNoTx)
	reader(t, b, 1)
	wantState(t, b, state{last, api.Alloc{High: 2, Cap: 20}, nil})
	// The one ahead of it has a next one, which is the last one.
	d := planted(t, 20, api.Meta{Tx: math.MaxUint64 - 1, High: 2})
	b = opened(t, d)
	begun(t, b)
	want(t, "Begin", b.Begin(), api.ErrBusy)
	must(t, b.Rollback())
	begun(t, b)
	puts(t, b, pair("a"))
	must(t, b.Commit())
	if m := b.Meta(); m != (api.Meta{Tx: math.MaxUint64, High: 3, Root: 2}) {
		t.Error(m)
	}
	want(t, "Begin", b.Begin(), api.ErrArg)
	want(t, "Begin", opened(t, d).Begin(), api.ErrArg)
	wantPairs(t, d, b, pairs("a"))
}

func TestKeysThatAreNone(t *testing.T) {
	d, b := fresh(t, 20)
	commits(t, b, pair("a"))
	begun(t, b)
	for _, k := range []string{"", some(25), some(70000)} {
		wantGet(t, b, k, "", false, api.ErrKey)
		want(t, "Put", b.Put(api.Pair{K: k}), api.ErrKey)
		if is, e := b.Delete(k); is || e != api.ErrKey {
			t.Errorf("Delete: %v, %d", is, e)
		}
	}
	want(t, "Put", b.Put(api.Pair{K: "b", V: some(61)}), api.ErrKey)
	// It goes on behind that.
	puts(t, b, pair("c"), api.Pair{K: some(24), V: some(60)})
	want(t, "Put", b.Put(api.Pair{}), api.ErrKey)
	must(t, b.Commit())
	wantPairs(t, d, b, append(pairs("a", "c"), api.Pair{K: some(24), V: some(60)}))
}

func TestRange(t *testing.T) {
	d, b := fresh(t, 400)
	all := plain{}
	begun(t, b)
	for i := range 1100 {
		p := api.Pair{K: fmt.Sprintf("%04d", i), V: some(i % 7)}
		all[p.K] = p.V
		puts(t, b, p)
	}
	for range 2 {
		for _, most := range []int{0, 1, 2, 999, 1000} {
			for _, from := range []string{"", "0", "0000", "0500", "0500x", "1099", "1099x", "2", some(25)} {
				for _, to := range []string{"", "0", "0000", "0001", "0500", "0501", "0503x", "1099", "2", some(25)} {
					wantRange(t, b, from, to, most, all.part(from, to, most), api.OK)
				}
			}
		}
		for _, most := range []int{math.MinInt, -1000, -1, 1001, 1002, math.MaxInt} {
			wantRange(t, b, "", "", most, nil, api.ErrArg)
			wantRange(t, b, "b", "a", most, nil, api.ErrArg)
		}
		must(t, b.Commit())
		begun(t, b)
	}
	wantPairs(t, d, b, all.list())
	// Of an empty tree, too.
	_, b = fresh(t, 20)
	begun(t, b)
	for most, e := range map[int]api.Errno{-1: api.ErrArg, 0: api.OK, 1: api.OK, 1000: api.OK, 1001: api.ErrArg} {
		wantRange(t, b, "", "", most, nil, e)
	}
}

// torn is a database of six pairs on some leaves, of which that of f is none, and its disk.
func torn(t *testing.T) (*disk.Disk, *txn.DB) {
	t.Helper()
	d, b := fresh(t, 60)
	begun(t, b)
	puts(t, b, pairs(words("abcdef")...)...)
	must(t, b.Commit())
	// This commit writes one leaf: that of f.
	commits(t, b, pair("f"))
	for id := uint32(2); id < b.Meta().High; id++ {
		p, e := page.Read(d, id)
		if e == api.OK && p.Kind == api.PageLeaf && p.Tx == b.Meta().Tx {
			must(t, d.Write(int(id)*4, "wrong"))
			must(t, d.Sync())
		}
	}
	return d, b
}

func TestATreeThatIsWrong(t *testing.T) {
	_, b := torn(t)
	s := stateOf(b)
	begun(t, b)
	wantGet(t, b, "f", "", false, api.ErrTree)
	wantGet(t, b, "", "", false, api.ErrKey)
	wantRange(t, b, "", "", 0, nil, api.ErrTree)
	wantRange(t, b, "a", "b", 1, nil, api.ErrTree)
	wantRange(t, b, "a", "b", -1, nil, api.ErrArg)
	wantRange(t, b, "a", "b", 1001, nil, api.ErrArg)
	// What just looks at the tree leaves no mark: what is put elsewhere is committed.
	wantGet(t, b, "a", pair("a").V, true, api.OK)
	puts(t, b, api.Pair{K: "a", V: "new"})
	must(t, b.Commit())
	if b.Meta().Tx != s.meta.Tx+1 {
		t.Error(b.Meta())
	}
	reader(t, b, 1)
	wantReadGet(t, b, 1, "a", "new", true, api.OK)
	wantReadGet(t, b, 1, "f", "", false, api.ErrTree)
	wantReadGet(t, b, 1, some(300), "", false, api.ErrTree)
	wantReadRange(t, b, 1, "", "", 1000, nil, api.ErrTree)
	wantReadRange(t, b, 1, "a", "b", 5, []api.Pair{{K: "a", V: "new"}}, api.OK)
}

func TestAnErrorThatTheWorkHasTold(t *testing.T) {
	for _, wrong := range []call{
		{"Put", func(b *txn.DB) answer { return answer{b.Put(pair("f")), nil} }},
		{"Delete", func(b *txn.DB) answer { is, e := b.Delete("f"); return answer{e, []any{is}} }},
	} {
		for _, end := range []string{"Commit", "Rollback"} {
			d, b := torn(t)
			s, ops := stateOf(b), d.Ops()
			must(t, b.Limit(0))
			begun(t, b)
			puts(t, b, api.Pair{K: "a", V: "new"})
			wantRefused(t, wrong, b, api.ErrTree)
			// All of the work tells it now, ahead of ErrKey, but not ahead of ErrArg.
			for _, k := range []string{"", "a", some(25)} {
				wantGet(t, b, k, "", false, api.ErrTree)
				want(t, "Put", b.Put(api.Pair{K: k}), api.ErrTree)
				if is, e := b.Delete(k); is || e != api.ErrTree {
					t.Errorf("Delete: %v, %d", is, e)
				}
			}
			wantRange(t, b, "", "", 5, nil, api.ErrTree)
			wantRange(t, b, "", "", -1, nil, api.ErrArg)
			want(t, "Begin", b.Begin(), api.ErrBusy)
			if end == "Commit" {
				want(t, end, b.Commit(), api.ErrTree)
			} else {
				must(t, b.Rollback())
			}
			want(t, "Commit", b.Commit(), api.ErrNoTx)
			wantState(t, b, s)
			if d.Ops() != ops {
				t.Errorf("%d writes and syncs", d.Ops()-ops)
			}
			begun(t, b)
			wantGet(t, b, "a", pair("a").V, true, api.OK)
		}
	}
}

func TestRollback(t *testing.T) {
	d, b := fresh(t, 60)
	commits(t, b, pairs(words("abcdefgh")...)...)
	s, bytes := stateOf(b), bytesOf(t, d)
	for range 3 {
		begun(t, b)
		puts(t, b, pairs(words("ijklm")...)...)
		deletes(t, b, words("abc")...)
		must(t, b.Rollback())
		wantState(t, b, s)
	}
	if !slices.Equal(bytesOf(t, d), bytes) || len(d.Unsynced()) > 0 {
		t.Error("the disk is another one")
	}
	begun(t, b)
	wantRange(t, b, "", "", 1000, pairs(words("abcdefgh")...), api.OK)
	must(t, b.Rollback())
	// What comes of the next one is what would have come of it without them.
	c := opened(t, copied(t, d))
	commits(t, b, pair("x"))
	commits(t, c, pair("x"))
	wantState(t, c, stateOf(b))
	wantWhole(t, d, b)
}

// P9.1: what a commit does.

func TestCommitOfNothing(t *testing.T) {
	d, b := fresh(t, 20)
	for i := range uint64(5) {
		ops := d.Ops()
		begun(t, b)
		must(t, b.Commit())
		wantState(t, b, state{api.Meta{Tx: i + 2, High: 2}, api.Alloc{High: 2, Cap: 20}, nil})
		if d.Ops() != ops+3 {
			t.Errorf("%d writes and syncs", d.Ops()-ops)
		}
	}
	wantState(t, opened(t, d), stateOf(b))
	// With spares, these stand in other chunks then.
	commits(t, b, pairs("a", "b", "c")...)
	l := pairs("a", "b", "c")
	w := &twin{t: t, d: d, b: b}
	for range 6 {
		old := b.Chunks()
		w.begin(b.Meta().Tx)
		w.commit()
		if slices.Equal(b.Chunks(), old) || len(b.Chunks()) != 1 {
			t.Errorf("chunks %v behind %v", b.Chunks(), old)
		}
		wantWhole(t, d, b)
		wantPairs(t, d, b, l)
	}
	// What is put and deleted again was never there, but its page is a spare of this transaction.
	d, b = fresh(t, 20)
	begun(t, b)
	puts(t, b, pair("a"))
	deletes(t, b, "a")
	must(t, b.Commit())
	wantState(t, b, state{api.Meta{Tx: 2, High: 4, Free: 3}, api.Alloc{High: 4, Cap: 20, Spare: spares(2, 1, 2)}, ids(3)})
	wantWhole(t, d, b)
}

// Transactions by hand, each page told.
func TestPagesByHand(t *testing.T) {
	d, b := fresh(t, 20)
	of := func(page uint32, tx uint64) api.Spare { return api.Spare{Page: page, Tx: tx} }
	wanted := func(tx uint64, root, high, free uint32, chunks []uint32, l ...api.Spare) {
		t.Helper()
		wantState(t, b, state{api.Meta{Tx: tx, Root: root, High: high, Free: free}, api.Alloc{High: high, Cap: 20, Spare: l}, chunks})
		wantWhole(t, d, b)
	}
	commits(t, b, pair("a"))
	wanted(2, 2, 3, 0, nil)
	// The copy is page 3; for page 2, which is gone, a chunk: page 4.
	commits(t, b, pair("b"))
	wanted(3, 3, 5, 4, ids(4), of(2, 3))
	// Page 2 may be taken now: its Tx is that of the last commit.
	commits(t, b, pair("a"))
	wanted(4, 2, 6, 5, ids(5), of(3, 4), of(4, 4))
	// A reader of Tx 4 lets them be taken, as nobody reads what is older; but not those of Tx 5, one behind it.
	reader(t, b, 1)
	commits(t, b, pair("a"))
	wanted(5, 3, 6, 4, ids(4), of(2, 5), of(5, 5))
	commits(t, b, pair("a"))
	wanted(6, 6, 8, 7, ids(7), of(2, 5), of(3, 6), of(4, 6), of(5, 5))
	// The oldest one is that of when it begins, whoever comes and goes meanwhile.
	begun(t, b)
	must(t, b.Close(1))
	puts(t, b, pair("a"))
	must(t, b.Commit())
	wanted(7, 8, 10, 9, ids(9), of(2, 5), of(3, 6), of(4, 6), of(5, 5), of(6, 7), of(7, 7))
	commits(t, b, pair("a"))
	wanted(8, 2, 10, 3, ids(3), of(4, 6), of(5, 5), of(6, 7), of(7, 7), of(8, 8), of(9, 8))
	wantPairs(t, d, b, pairs("a", "b"))
}

// nineteens is how many chunks there are for n spares of a Tx that nobody may take, and of their chunks when these are gone.
func TestNineteens(t *testing.T) {
	for n := range 100 {
		l := spares(2, n, 50)
		first := uint32(2 + n)
		all := chain(first, l)
		m := api.Meta{Tx: 6, High: first + uint32(len(all))}
		if n > 0 {
			m.Free = first
		}
		d := planted(t, 300, m, all...)
		w := &twin{t: t, d: d, b: opened(t, d)}
		w.begin(6)
		w.commit()
		s := stateOf(w.b)
		old := (n + 18) / 19
		if len(s.chunks) != (n+old+18)/19 || len(s.alloc.Spare) != n+old {
			t.Errorf("%d spares: %v", n, s)
		}
		wantWhole(t, d, w.b)
	}
}

// The chunks that are taken of the spares leave room in the last chunks, or let one have none at all.
func TestChunksOfTheSpares(t *testing.T) {
	for n := 1; n < 100; n++ {
		l := spares(2, n, 3)
		first := uint32(2 + n)
		all := chain(first, l)
		d := planted(t, 300, api.Meta{Tx: 6, High: first + uint32(len(all)), Free: first}, all...)
		w := &twin{t: t, d: d, b: opened(t, d)}
		w.begin(6)
		w.commit()
		if s := stateOf(w.b); len(s.chunks) != (n+len(all)+18)/19 || len(s.chunks)+len(s.alloc.Spare) != n+len(all) && n > 1 {
			t.Errorf("%d spares: %v", n, s)
		}
		wantWhole(t, d, w.b)
	}
	// One spare, taken for the chunk, and the old chunk's page: 2 makes one chunk. 19 spares, and one chunk: two chunks, of which the last one has none.
	d := planted(t, 30, api.Meta{Tx: 6, High: 22, Free: 21}, chain(21, spares(2, 19, 3))...)
	b := opened(t, d)
	begun(t, b)
	must(t, b.Commit())
	l := append(spares(4, 17, 3), api.Spare{Page: 21, Tx: 7})
	wantState(t, b, state{api.Meta{Tx: 7, High: 22, Free: 2}, api.Alloc{High: 22, Cap: 30, Spare: l}, ids(2, 3)})
	if p, e := page.Read(d, 3); e != api.OK || p.Body != chunkBody(0) || p.Kind != api.PageFree || p.Tx != 7 {
		t.Error(p, e)
	}
}

// P9.1: where there is no room.

// wantAsBefore wants a database whose transaction was refused for want of pages to be as if it had been rolled back: as it was, without one write, and with all pages for the next one.
func wantAsBefore(t *testing.T, d *disk.Disk, b *txn.DB, s state, bytes []string, l []api.Pair) {
	t.Helper()
	want(t, "Rollback", b.Rollback(), api.ErrNoTx)
	wantState(t, b, s)
	if !slices.Equal(bytesOf(t, d), bytes) || len(d.Unsynced()) > 0 {
		t.Error("the disk is another one")
	}
	wantPairs(t, d, b, l)
	wantWhole(t, d, b)
	wantState(t, opened(t, d), s)
	begun(t, b)
	wantRange(t, b, "", "", 1000, l[:min(len(l), 1000)], api.OK)
	must(t, b.Rollback())
}

func TestFullInPut(t *testing.T) {
	d, b := fresh(t, 8)
	commits(t, b, pairs("a", "b")...)
	s, bytes := stateOf(b), bytesOf(t, d)
	for _, end := range []string{"Commit", "Rollback"} {
		must(t, b.Limit(1000))
		begun(t, b)
		var e api.Errno
		for _, k := range words("cdefghijklmnopqrstuvwxyz") {
			if e = b.Put(pair(k)); e != api.OK {
				break
			}
		}
		want(t, "Put", e, api.ErrFull)
		wantGet(t, b, "a", "", false, api.ErrFull)
		wantGet(t, b, "", "", false, api.ErrFull)
		want(t, "Put", b.Put(api.Pair{K: "a"}), api.ErrFull)
		wantRange(t, b, "", "", 1000, nil, api.ErrFull)
		if is, e := b.Delete("a"); is || e != api.ErrFull {
			t.Errorf("Delete: %v, %d", is, e)
		}
		if end == "Commit" {
			want(t, end, b.Commit(), api.ErrFull)
		} else {
			must(t, b.Rollback())
		}
		wantAsBefore(t, d, b, s, bytes, pairs("a", "b"))
	}
	commits(t, b, pair("c"))
	wantPairs(t, d, b, pairs("a", "b", "c"))
	wantWhole(t, d, b)
}

func TestFullInDelete(t *testing.T) {
	// All six pages are the tree's: four leaves of two pairs each, below a branch, and a chunk would have none.
	d, b := fresh(t, 8)
	begun(t, b)
	puts(t, b, pairs(words("abcdefgh")...)...)
	must(t, b.Commit())
	if m := b.Meta(); m.High != 7 || m.Free != 0 {
		t.Fatal(m)
	}
	s, bytes := stateOf(b), bytesOf(t, d)
	for _, end := range []string{"Commit", "Rollback"} {
		begun(t, b)
		if is, e := b.Delete("x"); is || e != api.OK {
			t.Errorf("Delete: %v, %d", is, e)
		}
		if is, e := b.Delete("a"); is || e != api.ErrFull {
			t.Errorf("Delete: %v, %d", is, e)
		}
		wantGet(t, b, "b", "", false, api.ErrFull)
		if end == "Commit" {
			want(t, end, b.Commit(), api.ErrFull)
		} else {
			must(t, b.Rollback())
		}
		wantAsBefore(t, d, b, s, bytes, pairs(words("abcdefgh")...))
	}
}

func TestFullInCommit(t *testing.T) {
	// Pages 2 to 7; the root's copy takes the last one but a chunk's, then none is left for a chunk.
	d, b := fresh(t, 8)
	commits(t, b, pair("a"))
	reader(t, b, 1)
	commits(t, b, pair("b"), pair("c"))
	w := &twin{t: t, d: d, b: b}
	s, bytes := stateOf(b), bytesOf(t, d)
	if s.meta.High != 7 {
		t.Fatal(s)
	}
	// With a limit, too, which is not reached then.
	for _, limit := range []int{1 << 30, 0} {
		must(t, b.Limit(limit))
		w.begin(2)
		must(t, w.put(pair("a")))
		if p, room := w.plan(); room {
			t.Fatal(p)
		}
		wantRange(t, b, "", "", 9, pairs("a", "b", "c"), api.OK)
		want(t, "Commit", b.Commit(), api.ErrFull)
		wantAsBefore(t, d, b, s, bytes, pairs("a", "b", "c"))
		wantReadRange(t, b, 1, "", "", 9, pairs("a"), api.OK)
	}
	// A commit of nothing needs a chunk's page, too: there is one, and then there is none.
	must(t, b.Limit(1<<30))
	w.begin(2)
	w.commit()
	wantWhole(t, d, b)
	s, bytes = stateOf(b), bytesOf(t, d)
	begun(t, b)
	want(t, "Commit", b.Commit(), api.ErrFull)
	wantAsBefore(t, d, b, s, bytes, pairs("a", "b", "c"))
	// Without the reader there are pages enough.
	must(t, b.Close(1))
	w.begin(b.Meta().Tx)
	must(t, w.put(pair("d")))
	w.commit()
	wantPairs(t, d, b, pairs("a", "b", "c", "d"))
	wantWhole(t, d, b)
}

func TestTooManySpares(t *testing.T) {
	// The spares are of a Tx that nobody may take; with 205 chunks that are gone there are 4096, or one more.
	for n, e := range map[int]api.Errno{3890: api.OK, 3891: api.OK, 3892: api.ErrFull, 4096: api.ErrFull} {
		l := spares(2, n, 9)
		first := uint32(2 + n)
		all := chain(first, l)
		d := planted(t, 16384, api.Meta{Tx: 6, High: first + uint32(len(all)), Free: first}, all...)
		w := &twin{t: t, d: d, b: opened(t, d)}
		s := stateOf(w.b)
		w.begin(6)
		if e == api.OK {
			w.commit()
			if got := len(w.b.Alloc().Spare); got != n+205 {
				t.Errorf("%d spares", got)
			}
			wantWhole(t, d, w.b)
			continue
		}
		if _, room := w.plan(); room {
			t.Errorf("room for %d spares", n)
		}
		ops := d.Ops()
		want(t, "Commit", w.b.Commit(), e)
		want(t, "Commit", w.b.Commit(), api.ErrNoTx)
		wantState(t, w.b, s)
		if d.Ops() != ops {
			t.Errorf("%d writes and syncs", d.Ops()-ops)
		}
	}
}

// A tree of so many pages that all of them, let go at once, are too many spares.
func TestTooManyPagesAreGone(t *testing.T) {
	d, b := fresh(t, 16384)
	begun(t, b)
	var l []api.Pair
	for i := range 4700 {
		l = append(l, pair(fmt.Sprintf("%024d", i)))
	}
	puts(t, b, l...)
	must(t, b.Commit())
	s, bytes := stateOf(b), bytesOf(t, d)
	if s.meta.High < 4300 || len(s.chunks) > 0 {
		t.Fatal(s.meta)
	}
	begun(t, b)
	for i := range l {
		must(t, b.Put(api.Pair{K: l[i].K, V: l[i].V}))
	}
	wantGet(t, b, l[0].K, l[0].V, true, api.OK)
	want(t, "Commit", b.Commit(), api.ErrFull)
	wantAsBefore(t, d, b, s, bytes, l)
	// Half of them at once are not.
	begun(t, b)
	puts(t, b, l[:2350]...)
	must(t, b.Commit())
	if n := len(b.Alloc().Spare); n < 2000 || len(b.Chunks()) != (n+18)/19 {
		t.Errorf("%d spares", n)
	}
	wantWhole(t, d, b)
	wantPairs(t, d, b, l)
}

// P9.2: readers.

func TestReaders(t *testing.T) {
	_, b := fresh(t, 60)
	commits(t, b, pair("a"))
	for i := range 64 {
		reader(t, b, i+1)
	}
	for range 3 {
		if r, e := b.Read(); r != 0 || e != api.ErrMany {
			t.Errorf("Read of a 65th: %d, %d", r, e)
		}
	}
	// Numbers go on behind those that were closed; what was refused has none.
	must(t, b.Close(64))
	reader(t, b, 65)
	must(t, b.Close(1))
	must(t, b.Close(30))
	reader(t, b, 66)
	reader(t, b, 67)
	if r, e := b.Read(); r != 0 || e != api.ErrMany {
		t.Errorf("Read: %d, %d", r, e)
	}
	wantNoReader(t, b, 64, 1, 30, 68, 0, -1, 1000, math.MinInt, math.MaxInt)
	for _, r := range []int{2, 29, 31, 63, 65, 66, 67} {
		wantReadRange(t, b, r, "", "", 10, pairs("a"), api.OK)
		must(t, b.Close(r))
		wantNoReader(t, b, r)
	}
	reader(t, b, 68)
	// Another database of the disk has its own ones.
	_, c := fresh(t, 60)
	wantNoReader(t, c, 1, 2, 68)
	reader(t, c, 1)
}

// wantNoReader wants no readers of these numbers to be open.
func wantNoReader(t *testing.T, b *txn.DB, numbers ...int) {
	t.Helper()
	for _, r := range numbers {
		want(t, "Close", b.Close(r), api.ErrReader)
		for _, k := range []string{"", "a", some(25)} {
			wantReadGet(t, b, r, k, "", false, api.ErrReader)
			for _, most := range []int{-1, 0, 1, 1000, 1001} {
				wantReadRange(t, b, r, k, "", most, nil, api.ErrReader)
			}
		}
	}
}

func TestWhatReadersTell(t *testing.T) {
	_, b := fresh(t, 400)
	all := plain{}
	begun(t, b)
	for i := range 1100 {
		p := api.Pair{K: fmt.Sprintf("%04d", i), V: some(i % 7)}
		all[p.K] = p.V
		puts(t, b, p)
	}
	// One of the last commit, which is none yet.
	reader(t, b, 1)
	must(t, b.Commit())
	reader(t, b, 2)
	for _, k := range []string{"", "0", "0500x", some(25), some(70000)} {
		wantReadGet(t, b, 1, k, "", false, api.OK)
		wantReadGet(t, b, 2, k, "", false, api.OK)
	}
	wantReadGet(t, b, 1, "0500", "", false, api.OK)
	wantReadGet(t, b, 2, "0500", all["0500"], true, api.OK)
	for _, from := range []string{"", "0000", "0500", "0500x", "1099x", some(25)} {
		for _, to := range []string{"", "0000", "0501", "0503x", "2", some(25)} {
			for _, most := range []int{0, 1, 2, 999, 1000} {
				wantReadRange(t, b, 1, from, to, most, nil, api.OK)
				wantReadRange(t, b, 2, from, to, most, all.part(from, to, most), api.OK)
			}
			for _, most := range []int{math.MinInt, -1, 1001, math.MaxInt} {
				wantReadRange(t, b, 1, from, to, most, nil, api.ErrArg)
				wantReadRange(t, b, 2, from, to, most, nil, api.ErrArg)
			}
		}
	}
}

// P9.2: limits, and databases that are down.

func TestLimitsThatAreNone(t *testing.T) {
	_, b := fresh(t, 60)
	for _, n := range []int{math.MinInt, math.MinInt32, -1000, -1} {
		want(t, "Limit", b.Limit(n), api.ErrArg)
	}
	// It is no limit, so there is none.
	commits(t, b, pairs("a", "b")...)
	// The one ahead stays.
	must(t, b.Limit(0))
	want(t, "Limit", b.Limit(-1), api.ErrArg)
	begun(t, b)
	want(t, "Commit", b.Commit(), api.ErrDown)
}

// The first transaction writes a page: seven writes and syncs; the second one another one, and a chunk: eleven.
func TestLimits(t *testing.T) {
	for n := range 22 {
		d, b := fresh(t, 60)
		must(t, b.Limit(n))
		ops := d.Ops()
		wanted := api.OK
		for i, done := range []int{7, 18} {
			if e := b.Begin(); e != wanted {
				t.Errorf("limit %d, Begin: %d", n, e)
			}
			want(t, "Put", b.Put(pair("a")), wanted)
			if n < done {
				wanted = api.ErrDown
			}
			if e := b.Commit(); e != wanted {
				t.Errorf("limit %d, Commit %d: %d", n, i, e)
			}
			if got := d.Ops() - ops; got != min(n, done) {
				t.Errorf("limit %d, Commit %d: %d writes and syncs", n, i, got)
			}
		}
		// All are done, and it is not down till the next one.
		if n >= 18 {
			reader(t, b, 1)
			wantPairs(t, d, b, pairs("a"))
			wantWhole(t, d, b)
			begun(t, b)
			must(t, b.Rollback())
		}
	}
}

func TestLimitsCountCommitsAlone(t *testing.T) {
	d, b := fresh(t, 60)
	must(t, b.Limit(7))
	// Neither these, nor who works on the disk beside it.
	begun(t, b)
	puts(t, b, pair("x"))
	must(t, b.Rollback())
	reader(t, b, 1)
	must(t, b.Close(1))
	for range 20 {
		must(t, d.Write(200, "beside"))
		must(t, d.Sync())
	}
	commits(t, b, pair("a"))
	// Set anew, as often as one likes, in a transaction too.
	must(t, b.Limit(0))
	begun(t, b)
	puts(t, b, pair("b"))
	must(t, b.Limit(3))
	must(t, b.Limit(11))
	must(t, b.Commit())
	wantPairs(t, d, b, pairs("a", "b"))
	begun(t, b)
	want(t, "Commit", b.Commit(), api.ErrDown)
}

func TestDown(t *testing.T) {
	// A commit of nothing behind two others: a chunk, four writes, and three more steps.
	for n := range 7 {
		d, b := fresh(t, 60)
		commits(t, b, pairs("a", "b")...)
		s := stateOf(b)
		for i := range 64 {
			reader(t, b, i+1)
		}
		begun(t, b)
		must(t, b.Limit(n))
		ops := d.Ops()
		want(t, "Commit", b.Commit(), api.ErrDown)
		if d.Ops()-ops != n {
			t.Errorf("limit %d: %d writes and syncs", n, d.Ops()-ops)
		}
		bytes := bytesOf(t, d)
		// Meta, Alloc and Chunks tell what they told; all others ErrDown, ahead of all else.
		for range 2 {
			for _, number := range []int{-1, 0, 1, 64, 65} {
				for _, c := range calls(number) {
					wantRefused(t, c, b, api.ErrDown)
				}
			}
			wantState(t, b, s)
		}
		if d.Ops()-ops != n || !slices.Equal(bytesOf(t, d), bytes) {
			t.Errorf("limit %d: written, when it was down", n)
		}
	}
}

// R3: what is answered shares nothing with what is kept.

func TestWhatIsAnsweredIsNew(t *testing.T) {
	d, b := fresh(t, 400)
	begun(t, b)
	var l []api.Pair
	for i := range 60 {
		l = append(l, pair(fmt.Sprintf("%02d", i)))
	}
	puts(t, b, l...)
	must(t, b.Commit())
	begun(t, b)
	for i := range 50 {
		puts(t, b, l[i])
	}
	must(t, b.Commit())
	reader(t, b, 1)
	s, bytes := stateOf(b), bytesOf(t, d)
	if len(s.chunks) < 2 {
		t.Fatal(s)
	}
	begun(t, b)
	puts(t, b, l[3])
	for range 3 {
		a, chunks := b.Alloc().Spare, b.Chunks()
		spoil(a, api.Spare{Page: 9, Tx: 9})
		spoil(chunks, 7)
		wantState(t, b, s)
		for _, most := range []int{1, 30, 60, 1000} {
			all, e := b.Range("", "", most)
			must(t, e)
			spoil(all, api.Pair{K: "spoilt"})
			all, e = b.ReadRange(1, "", "", most)
			must(t, e)
			spoil(all, api.Pair{K: "spoilt"})
		}
		wantRange(t, b, "", "", 1000, l, api.OK)
		wantReadRange(t, b, 1, "", "", 1000, l, api.OK)
	}
	if !slices.Equal(bytesOf(t, d), bytes) {
		t.Error("the disk is another one")
	}
	must(t, b.Commit())
	wantPairs(t, d, b, l)
	wantWhole(t, d, b)
	c := opened(t, d)
	spoil(c.Alloc().Spare, api.Spare{})
	spoil(c.Chunks(), 0)
	wantState(t, c, stateOf(b))
}

// spoil writes into all of a list, and into its spare room.
func spoil[T any](l []T, v T) {
	l = l[:cap(l)]
	for i := range l {
		l[i] = v
	}
}
