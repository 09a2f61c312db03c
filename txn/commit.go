package txn

import (
	"iter"
	"slices"

	"bazaar/alloc"
	"bazaar/api"
	"bazaar/disk"
	"bazaar/meta"
	"bazaar/page"
	"bazaar/tree"
)

// nowhere is the next chunk of the last one.
const nowhere = 0

// commit is what a commit leaves: its meta, which pages are free, and the pages of the chunks that tell of these.
type commit struct {
	api.Meta
	alloc  api.Alloc
	chunks []uint32
}

// chunk is a chunk's page, and the spares that stand there.
type chunk struct {
	page   uint32
	spares []api.Spare
}

// stored is the last commit of a disk.
func stored(d *disk.Disk) (commit, api.Errno) {
	m, e := meta.Load(d)
	if e != api.OK {
		return commit{}, e
	}
	pages := min(d.Sectors()/api.Sectors, api.MaxPages)
	c := commit{Meta: m, alloc: api.Alloc{High: m.High, Cap: uint32(pages)}}
reading:
	for k, wrong := range chunks(d, m.Free) {
		e = wrong
		// As many chunks as there are pages are all of them: one more would be one of these again.
		if len(c.chunks) == pages {
			e = api.ErrTree
		}
		if e != api.OK {
			break reading
		}
		c.chunks = append(c.chunks, k.page)
		c.alloc.Spare = append(c.alloc.Spare, k.spares...)
	}
	if e != api.OK || !alloc.Right(c.alloc) {
		return commit{}, api.ErrTree
	}
	return c, api.OK
}

// chunks goes through the chunks from a page on, up to one that is none.
func chunks(d *disk.Disk, id uint32) iter.Seq2[chunk, api.Errno] {
	return func(yield func(chunk, api.Errno) bool) {
		for at := id; at != nowhere; {
			p, e := page.Read(d, at)
			if e != api.OK || p.Kind != api.PageFree {
				yield(chunk{}, api.ErrTree)
				return
			}
			next, l, e := alloc.Parse(p.Body)
			if !yield(chunk{at, l}, e) || e != api.OK {
				return
			}
			at = next
		}
	}
}

// told is the error that a work has told, if any: all its calls tell it then, be their keys right or not.
func told(w *tree.Work) api.Errno {
	_, _, e := w.Get("")
	if e == api.ErrKey {
		return api.OK
	}
	return e
}

// commit is what a transaction leaves that is committed behind one of these chunks, and the pages that are written for it, in order.
func (w *writer) commit(old []uint32) (commit, []api.Page, api.Errno) {
	if e := told(w.Work); e != api.OK {
		return commit{}, nil, e
	}
	gone := append(w.Gone(), old...)
	a := w.Alloc()
	// As many as all spares need ahead of taking the chunks, which leaves room in the last ones.
	n := (len(a.Spare) + len(gone) + api.ChunkSpares - 1) / api.ChunkSpares
	a, ids, e := taken(a, n, w.oldest)
	if e != api.OK {
		return commit{}, nil, e
	}
	// Just behind that, so that no page of the commit ahead is written while it may still be the last one.
	if a, e = given(a, w.tx, gone...); e != api.OK {
		return commit{}, nil, e
	}
	m := api.Meta{Tx: w.tx, Root: w.Root(), High: a.High, Free: behind(ids, 0)}
	return commit{m, a, ids}, append(w.Pages(), laid(a.Spare, w.tx, ids...)...), api.OK
}

// taken takes n pages: ErrFull, if there are fewer.
func taken(a api.Alloc, n int, oldest uint64) (api.Alloc, []uint32, api.Errno) {
	var ids []uint32
	for range n {
		then, id, e := alloc.Take(a, oldest)
		if e != api.OK {
			return api.Alloc{}, nil, e
		}
		a, ids = then, append(ids, id)
	}
	return a, ids, api.OK
}

// given gives pages: ErrFull, if there are too many spares then.
func given(a api.Alloc, tx uint64, ids ...uint32) (api.Alloc, api.Errno) {
	for _, id := range ids {
		then, e := alloc.Give(a, id, tx)
		if e != api.OK {
			return api.Alloc{}, api.ErrFull
		}
		a = then
	}
	return a, api.OK
}

// laid is the chunks on these pages, with the spares in them: the last ones have what is left, or none.
func laid(l []api.Spare, tx uint64, ids ...uint32) []api.Page {
	var pages []api.Page
	for i, id := range ids {
		n := min(len(l), api.ChunkSpares)
		// Never more than a chunk has room for, so none is refused.
		body, _ := alloc.Chunk(behind(ids, i+1), l[:n])
		pages = append(pages, api.Page{Kind: api.PageFree, Id: id, Tx: tx, Body: body})
		l = l[n:]
	}
	return pages
}

// behind is the page at a place of a list, or nowhere behind the last one.
func behind(ids []uint32, at int) uint32 {
	if at >= len(ids) {
		return nowhere
	}
	return ids[at]
}

// steps is the writes and syncs that let a commit be the last one: its pages are kept ahead of its meta, and this ahead of all that comes.
func (c commit) steps(d *disk.Disk, pages []api.Page) ([]func() api.Errno, api.Errno) {
	var all []func() api.Errno
	for _, p := range pages {
		s, e := page.Encode(p)
		if e != api.OK {
			return nil, e
		}
		// Sector by sector, as a limit may cut between any two of them.
		sector := int(p.Id) * api.Sectors
		for part := range slices.Chunk([]byte(s), api.SectorSize) {
			at := sector
			all = append(all, func() api.Errno { return d.Write(at, string(part)) })
			sector++
		}
	}
	store := func() api.Errno { return meta.Store(d, c.Meta) }
	return append(all, d.Sync, store, d.Sync), api.OK
}
