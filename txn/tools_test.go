package txn_test

import (
	"encoding/binary"
	"maps"
	"reflect"
	"slices"
	"strings"
	"testing"

	"bazaar/api"
	"bazaar/cursor"
	"bazaar/disk"
	"bazaar/meta"
	"bazaar/page"
	"bazaar/tree"
	"bazaar/txn"
)

// dice is a fixed row of numbers.
type dice uint32

// roll is the next one, below n.
func (d *dice) roll(n int) int {
	*d = *d*1664525 + 1013904223
	return int(uint64(*d) * uint64(n) >> 32)
}

// some is n bytes.
func some(n int) string { return strings.Repeat("v", n) }

// words is keys of one letter each.
func words(s string) []string { return strings.Split(s, "") }

// ids is a list of pages.
func ids(all ...uint32) []uint32 { return all }

// pair is a pair whose value has 60 bytes: two of them fit a leaf with room for one more, four do not.
func pair(k string) api.Pair { return api.Pair{K: k, V: (k + some(60))[:60]} }

// pairs is such pairs.
func pairs(keys ...string) []api.Pair {
	var l []api.Pair
	for _, k := range keys {
		l = append(l, pair(k))
	}
	return l
}

// must is of a call that is not refused here.
func must(t *testing.T, e api.Errno) {
	t.Helper()
	if e != api.OK {
		t.Fatalf("error %d", e)
	}
}

// want is of a call that tells an error.
func want(t *testing.T, what string, e, wanted api.Errno) {
	t.Helper()
	if e != wanted {
		t.Errorf("%s: error %d, not %d", what, e, wanted)
	}
}

// sectors is a disk of so many sectors.
func sectors(t *testing.T, n int) *disk.Disk {
	t.Helper()
	d, e := disk.New(n)
	must(t, e)
	return d
}

// blank is a disk of so many pages.
func blank(t *testing.T, pages int) *disk.Disk {
	t.Helper()
	return sectors(t, pages*api.Sectors)
}

// opened is the database of a disk.
func opened(t *testing.T, d *disk.Disk) *txn.DB {
	t.Helper()
	b, e := txn.Open(d)
	if e != api.OK || b == nil {
		t.Fatalf("Open: %d", e)
	}
	return b
}

// fresh is a disk of so many pages that was formatted, and its database.
func fresh(t *testing.T, pages int) (*disk.Disk, *txn.DB) {
	t.Helper()
	d := blank(t, pages)
	must(t, txn.Format(d))
	return d, opened(t, d)
}

// read is a sector.
func read(t *testing.T, d *disk.Disk, sector int) string {
	t.Helper()
	s, e := d.Read(sector)
	must(t, e)
	return s
}

// bytesOf is all sectors of a disk.
func bytesOf(t *testing.T, d *disk.Disk) []string {
	t.Helper()
	var all []string
	for i := range d.Sectors() {
		all = append(all, read(t, d, i))
	}
	return all
}

// copied is another disk with the same sectors, all synced.
func copied(t *testing.T, d *disk.Disk) *disk.Disk {
	t.Helper()
	c := sectors(t, d.Sectors())
	for i, s := range bytesOf(t, d) {
		must(t, c.Write(i, s))
	}
	must(t, c.Sync())
	return c
}

// full is bytes, and bytes 0 behind them up to a sector.
func full(s string) string { return s + strings.Repeat("\x00", api.SectorSize-len(s)) }

// metaBytes is a meta's bytes as chapter 4 tells them.
func metaBytes(m api.Meta) string {
	b := binary.BigEndian.AppendUint64(nil, m.Tx)
	for _, n := range ids(m.Root, m.High, m.Free) {
		b = binary.BigEndian.AppendUint32(b, n)
	}
	b = append(b, make([]byte, 56-len(b))...)
	return string(binary.BigEndian.AppendUint64(b, m.Tx))
}

// chunkBody is a chunk's bytes as chapter 5 tells them.
func chunkBody(next uint32, l ...api.Spare) string {
	b := binary.BigEndian.AppendUint32(nil, next)
	b = append(b, byte(len(l)))
	for _, s := range l {
		b = binary.BigEndian.AppendUint32(b, s.Page)
		b = binary.BigEndian.AppendUint64(b, s.Tx)
	}
	return string(b)
}

// chunkPage is a page of a chunk.
func chunkPage(id, next uint32, l ...api.Spare) api.Page {
	return api.Page{Kind: api.PageFree, Id: id, Tx: 1, Body: chunkBody(next, l...)}
}

// planted is a disk of so many pages on which a meta stands, and pages.
func planted(t *testing.T, pages int, m api.Meta, all ...api.Page) *disk.Disk {
	t.Helper()
	d := blank(t, pages)
	for _, p := range all {
		must(t, page.Write(d, p))
	}
	must(t, meta.Store(d, m))
	must(t, d.Sync())
	return d
}

// spares is n spares of one transaction, from a page on.
func spares(first uint32, n int, tx uint64) []api.Spare {
	var l []api.Spare
	for i := range uint32(n) {
		l = append(l, api.Spare{Page: first + i, Tx: tx})
	}
	return l
}

// chain is chunks on pages from first on, in which spares are laid.
func chain(first uint32, l []api.Spare) []api.Page {
	var all []api.Page
	for part := range slices.Chunk(l, api.ChunkSpares) {
		id := first + uint32(len(all))
		next := id + 1
		if len(all)*api.ChunkSpares+len(part) == len(l) {
			next = 0
		}
		all = append(all, chunkPage(id, next, part...))
	}
	return all
}

// idsOf is the Ids of pages.
func idsOf(all []api.Page) []uint32 {
	var l []uint32
	for _, p := range all {
		l = append(l, p.Id)
	}
	return l
}

// state is what a database tells of itself.
type state struct {
	meta   api.Meta
	alloc  api.Alloc
	chunks []uint32
}

func stateOf(b *txn.DB) state { return state{b.Meta(), b.Alloc(), b.Chunks()} }

// same tells whether states are, where empty lists are nil ones.
func same(a, b state) bool {
	return a.meta == b.meta && a.alloc.High == b.alloc.High && a.alloc.Cap == b.alloc.Cap &&
		slices.Equal(a.alloc.Spare, b.alloc.Spare) && slices.Equal(a.chunks, b.chunks)
}

func wantState(t *testing.T, b *txn.DB, wanted state) {
	t.Helper()
	if s := stateOf(b); !same(s, wanted) {
		t.Errorf("state %v, not %v", s, wanted)
	}
}

// plain is pairs by their keys.
type plain map[string]string

// list is the pairs, their keys rising.
func (p plain) list() []api.Pair {
	var l []api.Pair
	for _, k := range slices.Sorted(maps.Keys(p)) {
		l = append(l, api.Pair{K: k, V: p[k]})
	}
	return l
}

// part is the first most of the pairs from a key on, up to another.
func (p plain) part(from, to string, most int) []api.Pair {
	var l []api.Pair
	for _, pr := range p.list() {
		if pr.K >= from && (to == "" || pr.K < to) && len(l) < most {
			l = append(l, pr)
		}
	}
	return l
}

// plainOf is pairs by their keys.
func plainOf(l ...api.Pair) plain {
	p := plain{}
	for _, pr := range l {
		p[pr.K] = pr.V
	}
	return p
}

// allOf is all pairs of a database's last commit, as they stand on its disk.
func allOf(t *testing.T, d *disk.Disk, b *txn.DB) []api.Pair {
	t.Helper()
	c, e := cursor.Open(d, b.Meta().Root, "")
	must(t, e)
	var l []api.Pair
	for {
		p, is, e := c.Next()
		must(t, e)
		if !is {
			return l
		}
		l = append(l, p)
	}
}

// wantPairs wants the last commit to have these pairs.
func wantPairs(t *testing.T, d *disk.Disk, b *txn.DB, l []api.Pair) {
	t.Helper()
	if got := allOf(t, d, b); !slices.Equal(got, l) {
		t.Errorf("%d pairs, not these %d: %.300v, not %.300v", len(got), len(l), got, l)
	}
}

// wantWhole wants what the root reaches, the chunks and the spares to be all pages below High but the first two, each once, and the disk to tell all of it.
func wantWhole(t *testing.T, d *disk.Disk, b *txn.DB) {
	t.Helper()
	s := stateOf(b)
	all, e := cursor.Pages(d, s.meta.Root)
	must(t, e)
	all = append(all, s.chunks...)
	for _, f := range s.alloc.Spare {
		all = append(all, f.Page)
	}
	slices.Sort(all)
	var wanted []uint32
	for id := uint32(2); id < s.meta.High; id++ {
		wanted = append(wanted, id)
	}
	if !slices.Equal(all, wanted) {
		t.Errorf("pages %v below High %d", all, s.meta.High)
	}
	if s.alloc.High != s.meta.High || int(s.alloc.Cap) != d.Sectors()/api.Sectors {
		t.Errorf("alloc %v beside meta %v", s.alloc, s.meta)
	}
	if m, e := meta.Load(d); m != s.meta || e != api.OK {
		t.Errorf("meta %v on the disk (%d), not %v", m, e, s.meta)
	}
	wantChunks(t, d, s)
}

// wantChunks wants the spares to stand in the chunks: nineteen in each, the last ones what is left, or none.
func wantChunks(t *testing.T, d *disk.Disk, s state) {
	t.Helper()
	next, l := s.meta.Free, s.alloc.Spare
	for i, id := range s.chunks {
		if id != next {
			t.Fatalf("chunks %v: %d is told behind %d of them", s.chunks, next, i)
		}
		next = 0
		if i+1 < len(s.chunks) {
			next = s.chunks[i+1]
		}
		n := min(19, len(l))
		p, e := page.Read(d, id)
		if wanted := chunkBody(next, l[:n]...); e != api.OK || p.Kind != api.PageFree || p.Body != wanted {
			t.Fatalf("chunk %d: %v (%d), not %q", id, p, e, wanted)
		}
		l = l[n:]
	}
	if next != 0 || len(l) > 0 {
		t.Errorf("behind the chunks %v: %d, and %v", s.chunks, next, l)
	}
}

// twin is a database, and a work beside it that does what its transaction does.
type twin struct {
	t      *testing.T
	d      *disk.Disk
	b      *txn.DB
	w      *tree.Work
	oldest uint64
}

// begin begins a transaction, as of an oldest one.
func (w *twin) begin(oldest uint64) {
	w.t.Helper()
	must(w.t, w.b.Begin())
	s := stateOf(w.b)
	var e api.Errno
	w.w, e = tree.Open(w.d, s.meta.Root, s.alloc, s.meta.Tx+1, oldest)
	must(w.t, e)
	w.oldest = oldest
}

func (w *twin) put(p api.Pair) api.Errno {
	w.t.Helper()
	e, wanted := w.b.Put(p), w.w.Put(p)
	want(w.t, "Put "+p.K, e, wanted)
	return e
}

func (w *twin) remove(key string) api.Errno {
	w.t.Helper()
	is, e := w.b.Delete(key)
	wis, wanted := w.w.Delete(key)
	want(w.t, "Delete "+key, e, wanted)
	if is != wis {
		w.t.Errorf("Delete %s: %v", key, is)
	}
	return e
}

// plan is what a commit is to leave, and what it is to write ahead of its meta: pages, in order.
type plan struct {
	state
	pages []api.Page
}

// writes is the sectors that are written ahead of the meta.
func (p plan) writes() []int {
	var l []int
	for _, pg := range p.pages {
		for i := range 4 {
			l = append(l, int(pg.Id)*4+i)
		}
	}
	return l
}

// ops is how many writes and syncs the commit has.
func (p plan) ops() int { return 4*len(p.pages) + 3 }

// plan is the plan of the transaction that is open, worked out by a table of the spares; false, if there is no room.
func (w *twin) plan() (plan, bool) {
	s := stateOf(w.b)
	a := w.w.Alloc()
	tx := s.meta.Tx + 1
	table := map[uint32]uint64{}
	for _, f := range a.Spare {
		table[f.Page] = f.Tx
	}
	gone := append(w.w.Gone(), s.chunks...)
	p := plan{pages: w.w.Pages()}
	for len(p.chunks)*19 < len(a.Spare)+len(gone) {
		id := a.High
		for _, page := range slices.Sorted(maps.Keys(table)) {
			if table[page] <= w.oldest {
				id = page
				break
			}
		}
		if id == a.Cap {
			return plan{}, false
		}
		if id == a.High {
			a.High++
		}
		delete(table, id)
		p.chunks = append(p.chunks, id)
	}
	for _, id := range gone {
		table[id] = tx
	}
	var l []api.Spare
	for _, id := range slices.Sorted(maps.Keys(table)) {
		l = append(l, api.Spare{Page: id, Tx: table[id]})
	}
	p.alloc = api.Alloc{High: a.High, Cap: a.Cap, Spare: l}
	p.meta = api.Meta{Tx: tx, Root: w.w.Root(), High: a.High}
	for i, id := range p.chunks {
		var next uint32
		if i+1 < len(p.chunks) {
			next = p.chunks[i+1]
		}
		n := min(19, len(l))
		p.pages = append(p.pages, api.Page{Kind: api.PageFree, Id: id, Tx: tx, Body: chunkBody(next, l[:n]...)})
		l = l[n:]
	}
	p.meta.Free = append(p.chunks, 0)[0]
	return p, len(table) <= 4096
}

// commit commits, and wants what was planned: what the database tells, what stands on the disk, and how much was done.
func (w *twin) commit() plan {
	w.t.Helper()
	p, room := w.plan()
	if !room {
		w.t.Fatal("no room for the commit")
	}
	ops := w.d.Ops()
	must(w.t, w.b.Commit())
	wantState(w.t, w.b, p.state)
	if n := w.d.Ops() - ops; n != p.ops() || len(w.d.Unsynced()) > 0 {
		w.t.Errorf("%d writes and syncs, not %d; unsynced: %v", n, p.ops(), w.d.Unsynced())
	}
	for _, pg := range p.pages {
		if got, e := page.Read(w.d, pg.Id); got != pg || e != api.OK {
			w.t.Errorf("page %d: %v (%d), not %v", pg.Id, got, e, pg)
		}
	}
	return p
}

// commits does a transaction that puts pairs, one each, and commits.
func commits(t *testing.T, b *txn.DB, l ...api.Pair) {
	t.Helper()
	for _, p := range l {
		must(t, b.Begin())
		must(t, b.Put(p))
		must(t, b.Commit())
	}
}

// puts puts pairs, in the transaction that is open.
func puts(t *testing.T, b *txn.DB, l ...api.Pair) {
	t.Helper()
	for _, p := range l {
		must(t, b.Put(p))
	}
}

// deletes deletes keys that are there.
func deletes(t *testing.T, b *txn.DB, keys ...string) {
	t.Helper()
	for _, k := range keys {
		if is, e := b.Delete(k); !is || e != api.OK {
			t.Fatalf("Delete %s: %v, %d", k, is, e)
		}
	}
}

// begun begins a transaction.
func begun(t *testing.T, b *txn.DB) {
	t.Helper()
	must(t, b.Begin())
}

// reader opens a reader, of that number.
func reader(t *testing.T, b *txn.DB, number int) {
	t.Helper()
	if r, e := b.Read(); r != number || e != api.OK {
		t.Fatalf("Read: %d, %d; not %d", r, e, number)
	}
}

// answer is what a call answers: its error and all else.
type answer struct {
	e    api.Errno
	rest []any
}

// call is a call on a database that may be refused.
type call struct {
	name string
	do   func(b *txn.DB) answer
}

// calls is all calls that may be refused, with arguments right and wrong; reads is those on a reader.
func calls(number int) []call {
	l := []call{
		{"Begin", func(b *txn.DB) answer { return answer{b.Begin(), nil} }},
		{"Commit", func(b *txn.DB) answer { return answer{b.Commit(), nil} }},
		{"Rollback", func(b *txn.DB) answer { return answer{b.Rollback(), nil} }},
		{"Read", func(b *txn.DB) answer { n, e := b.Read(); return answer{e, []any{n}} }},
		{"Close", func(b *txn.DB) answer { return answer{b.Close(number), nil} }},
	}
	for _, n := range []int{-1 << 63, -1, 0, 1, 1 << 30} {
		l = append(l, call{"Limit", func(b *txn.DB) answer { return answer{b.Limit(n), nil} }})
	}
	for _, k := range []string{"", "a", some(25)} {
		l = append(l,
			call{"Get " + k, func(b *txn.DB) answer { v, is, e := b.Get(k); return answer{e, []any{v, is}} }},
			call{"Put " + k, func(b *txn.DB) answer { return answer{b.Put(api.Pair{K: k, V: k}), nil} }},
			call{"Delete " + k, func(b *txn.DB) answer { is, e := b.Delete(k); return answer{e, []any{is}} }},
			call{"ReadGet " + k, func(b *txn.DB) answer { v, is, e := b.ReadGet(number, k); return answer{e, []any{v, is}} }})
		for _, most := range []int{-1 << 63, -1, 0, 1, 1000, 1001, 1<<63 - 1} {
			l = append(l,
				call{"Range " + k, func(b *txn.DB) answer { l, e := b.Range(k, "", most); return answer{e, []any{len(l)}} }},
				call{"ReadRange " + k, func(b *txn.DB) answer {
					l, e := b.ReadRange(number, k, "", most)
					return answer{e, []any{len(l)}}
				}})
		}
	}
	return l
}

// wantRefused wants a call to tell an error, and nothing beside it.
func wantRefused(t *testing.T, c call, b *txn.DB, wanted api.Errno) {
	t.Helper()
	a := c.do(b)
	want(t, c.name, a.e, wanted)
	for _, r := range a.rest {
		if !reflect.ValueOf(r).IsZero() {
			t.Errorf("%s: %v beside an error", c.name, r)
		}
	}
}
