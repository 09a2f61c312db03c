// Package disk is layer 1: see shared/doc/01-disk.md.
package disk

import (
	"iter"

	"bazaar/api"
)

// sector is a sector's bytes.
type sector [api.SectorSize]byte

// write is a write that is not synced.
type write struct {
	at    int
	bytes sector
}

// medium is sectors twice over: as they are kept, and as they are read.
// Both stand side by side, so that a read need not search the unsynced writes.
type medium struct {
	kept []sector
	seen []sector
}

// has tells whether there is a sector.
func (m *medium) has(at int) bool { return within(0, len(m.kept)-1, at) }

// show lets a sector be read as it was written.
func (m *medium) show(w write) { m.seen[w.at] = w.bytes }

// keep keeps a write's first n bytes.
func (m *medium) keep(w write, n int) { copy(m.kept[w.at][:n], w.bytes[:n]) }

// fall lets a sector be read as it is kept.
func (m *medium) fall(at int) { m.seen[at] = m.kept[at] }

// Disk is sectors that are kept.
type Disk struct {
	medium
	unsynced []write
	ops      int
}

// New is one.
func New(sectors int) (*Disk, api.Errno) {
	if !within(1, api.MaxSectors, sectors) {
		return nil, api.ErrArg
	}
	m := medium{kept: make([]sector, sectors), seen: make([]sector, sectors)}
	return &Disk{medium: m}, api.OK
}

// Write writes a sector, Read reads one, Sync keeps all, Crash keeps some.
func (d *Disk) Write(sector int, s string) api.Errno {
	switch {
	case d == nil:
		return api.ErrNil
	case !d.has(sector):
		return api.ErrSector
	case len(s) > api.SectorSize:
		return api.ErrArg
	}
	w := write{at: sector}
	copy(w.bytes[:], s)
	d.show(w)
	d.unsynced = append(d.unsynced, w)
	d.ops++
	return api.OK
}

func (d *Disk) Read(sector int) (string, api.Errno) {
	switch {
	case d == nil:
		return "", api.ErrNil
	case !d.has(sector):
		return "", api.ErrSector
	}
	return string(d.seen[sector][:]), api.OK
}

func (d *Disk) Sync() api.Errno {
	if d == nil {
		return api.ErrNil
	}
	for _, w := range d.writes() {
		d.keep(w, api.SectorSize)
	}
	d.unsynced = nil
	d.ops++
	return api.OK
}

func (d *Disk) Crash(keep []int) api.Errno {
	switch {
	case d == nil:
		return api.ErrNil
	case len(keep) > len(d.unsynced), !within(0, api.SectorSize, keep...):
		return api.ErrArg
	}
keeping:
	for i, w := range d.writes() {
		if i == len(keep) {
			break keeping
		}
		d.keep(w, keep[i])
	}
	// Those that the list does not reach fall back, too.
	for _, w := range d.writes() {
		d.fall(w.at)
	}
	d.unsynced = nil
	return api.OK
}

// Unsynced, Sectors and Ops tell of it.
func (d *Disk) Unsynced() []int {
	if d == nil {
		return nil
	}
	var sectors []int
	for _, w := range d.writes() {
		sectors = append(sectors, w.at)
	}
	return sectors
}

func (d *Disk) Sectors() int {
	if d == nil {
		return 0
	}
	return len(d.kept)
}

func (d *Disk) Ops() int {
	if d == nil {
		return 0
	}
	return d.ops
}

// writes goes through the unsynced writes, in the order in which they were made.
func (d *Disk) writes() iter.Seq2[int, write] {
	return func(yield func(int, write) bool) {
		for i, w := range d.unsynced {
			if !yield(i, w) {
				return
			}
		}
	}
}

// within tells whether all numbers are low to high.
func within(low, high int, numbers ...int) bool {
	for _, n := range numbers {
		if n < low || n > high {
			return false
		}
	}
	return true
}
