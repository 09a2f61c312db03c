package tree

import (
	"errors"
	"slices"

	"bazaar/alloc"
	"bazaar/api"
	"bazaar/node"
)

// change is what one call makes of a work. It stands beside it, so that nothing stays of a call that tells an error.
type change struct {
	work *Work
	state
	// pages is the work's pages that are others than before: the zero page for one that is needed no more.
	pages map[uint32]api.Page
	// gone is the disk's pages that were let go.
	gone []uint32
	// full is told for want of pages, but behind a fault of a page that is needed: so the call goes on to the end.
	full error
}

// begin begins a change.
func (w *Work) begin() *change {
	return &change{work: w, state: w.state, pages: map[uint32]api.Page{}}
}

// end lets the work be what the change has made of it, or tell from now on what was wrong.
func (c *change) end(err error) api.Errno {
	w := c.work
	w.told = number(errors.Join(err, c.full))
	if w.told != api.OK {
		return w.told
	}
	w.state = c.state
	for id, p := range c.pages {
		if p == (api.Page{}) {
			delete(w.own, id)
			continue
		}
		w.own[id] = p
	}
	for _, id := range c.gone {
		w.gone[id] = struct{}{}
	}
	return api.OK
}

// put puts a pair.
func (c *change) put(p api.Pair) error {
	way, err := c.work.way(p.K)
	if err != nil {
		return err
	}
	leaf := way[len(way)-1]
	n, e := node.Put(leaf.node, p)
	if e != api.OK {
		return torn(e)
	}
	leaf.node = n
	for level := len(way) - 1; level > 0; level-- {
		if err := c.lay(way[level-1], way[level].node, 1); err != nil {
			return err
		}
	}
	return c.crown(way)
}

// remove deletes the pair of a key; it tells whether there was one.
func (c *change) remove(key string) (bool, error) {
	way, err := c.work.way(key)
	if err != nil {
		return false, err
	}
	leaf := way[len(way)-1]
	n, was, e := node.Delete(leaf.node, key)
	if !was {
		return false, torn(e)
	}
	leaf.node = n
	c.copyWay(way)
	for level := len(way) - 1; level > 0; level-- {
		above, s := way[level-1], way[level]
		wide, err := c.join(above, s, level)
		if err != nil {
			return false, err
		}
		if err := c.lay(above, s.node, wide); err != nil {
			return false, err
		}
	}
	if err := c.crown(way); err != nil {
		return false, err
	}
	c.shrink(way)
	return true, nil
}

// join joins a small node with its neighbour in the branch above, if it has one; it tells how many of that branch's kids the node is then, its place there being that of the first one.
func (c *change) join(above, s *step, level int) (int, error) {
	last := len(above.node.Kids) - 1
	if node.Size(s.node) >= api.SmallNode || last == 0 {
		return 1, nil
	}
	at := above.at + 1
	if above.at == last {
		at = last - 1
		above.at = at
	}
	n, err := c.work.node(above.node.Kids[at], level)
	if err != nil {
		return 0, err
	}
	left, right := s.node, n
	if at == above.at {
		left, right = n, s.node
	}
	joined, e := node.Join(left, above.node.Keys[above.at], right)
	s.node = joined
	return 2, torn(e)
}

// lay lets a node stand where so many kids of the branch above did: as two nodes, if it does not fit.
func (c *change) lay(above *step, n api.Node, wide int) error {
	halves, keys, err := fitting(n)
	if err != nil {
		return err
	}
	from, to := above.at, above.at+wide
	old := above.node.Kids[from:to]
	var ids []uint32
	for _, half := range halves {
		id := uint32(nowhere)
		if len(old) > 0 {
			id, old = old[0], old[1:]
		}
		if id, err = c.write(id, half); err != nil {
			return err
		}
		ids = append(ids, id)
	}
	for _, id := range old {
		c.drop(id)
	}
	above.node.Kids = slices.Replace(above.node.Kids, from, to, ids...)
	above.node.Keys = slices.Replace(above.node.Keys, from, to-1, keys...)
	return nil
}

// fitting is a node, or both halves of one that does not fit, with the key between.
func fitting(n api.Node) ([]api.Node, []string, error) {
	if node.Size(n) <= api.MaxBody {
		return []api.Node{n}, nil, nil
	}
	left, key, right, e := node.Split(n)
	return []api.Node{left, right}, []string{key}, torn(e)
}

// crown lets what stands above a way be the root: the one kid there, or a new branch, if the root was split.
func (c *change) crown(way []*step) error {
	top := way[0].node
	if len(top.Kids) == 1 {
		c.root = top.Kids[0]
		return nil
	}
	// One more page above the others could not be read any more.
	if len(way) > maxLevels {
		return fault{api.ErrTree}
	}
	id, err := c.write(nowhere, top)
	c.root = id
	return err
}

// shrink lets the root be its one kid, as long as it has no other one, or nothing, if it has no pair.
func (c *change) shrink(way []*step) {
shrinking:
	for _, s := range way[1:] {
		root := c.root
		switch {
		case len(s.node.Kids) == 1:
			c.root = s.node.Kids[0]
		case len(s.node.Kids)+len(s.node.Pairs) == 0:
			c.root = nowhere
		default:
			break shrinking
		}
		c.drop(root)
	}
}

// copyWay lets all nodes of a way stand on pages of the work, be they needed no more behind that: these are given then.
func (c *change) copyWay(way []*step) {
	for _, s := range way[:len(way)-1] {
		s.node.Kids[s.at] = c.copied(s.node.Kids[s.at])
	}
}

// write lets a node stand on its page, or on a copy of it, and tells which one.
func (c *change) write(id uint32, n api.Node) (uint32, error) {
	kind, body, e := node.Encode(n)
	if e != api.OK {
		return nowhere, torn(e)
	}
	id = c.copied(id)
	c.pages[id] = api.Page{Kind: kind, Id: id, Tx: c.work.tx, Body: body}
	return id, nil
}

// mine tells whether a page is one of the work.
func (c *change) mine(id uint32) bool {
	if p, changed := c.pages[id]; changed {
		return p != (api.Page{})
	}
	_, own := c.work.own[id]
	return own
}

// copied is a page of the work for what stands on another one: this, if it is one of the work; else it is let go.
func (c *change) copied(id uint32) uint32 {
	if c.mine(id) {
		return id
	}
	if id != nowhere {
		c.drop(id)
	}
	id = c.take()
	c.pages[id] = api.Page{Id: id}
	return id
}

// take takes a page. If there is none, it is some page, as nothing of the change stays then.
func (c *change) take() uint32 {
	a, id, e := alloc.Take(c.alloc, c.work.oldest)
	if e != api.OK {
		c.full = fault{api.ErrFull}
		return firstPage
	}
	c.alloc = a
	return id
}

// drop gives a page of the work, and lets go one of the disk.
func (c *change) drop(id uint32) {
	if !c.mine(id) {
		c.gone = append(c.gone, id)
		return
	}
	a, e := alloc.Give(c.alloc, id, c.work.tx)
	if e != api.OK {
		c.full = fault{api.ErrFull}
		return
	}
	c.alloc = a
	c.pages[id] = api.Page{}
}
