package walk

import (
	"citadel/api"
	"citadel/ram"
)

const (
	// top is the level of the table where a walk begins.
	top = 2
	// levelBits is how many bits of an address choose an entry of a table.
	levelBits = 9
	// entrySize is how many bytes an entry has.
	entrySize = 8
	// lastTable is the last page whose bytes have addresses: those of the next would begin at 0 again.
	lastTable = 1<<52 - 1
)

// walk is one walk of an address from a table on: what the stages share.
type walk struct {
	m     *ram.RAM
	addr  uint64
	table uint64 // the page of the table where the walk stands
	level int
	wrong int   // the fault of its stage
	leaf  entry // where it has come to, if it had no fault
}

// down goes from level to level, to the leaf. How an entry is read at an address of the table is the stage's to say.
func (w *walk) down(read func(addr uint64) (entry, int)) int {
	w.level = top
next:
	if w.table > lastTable {
		return api.FaultBus
	}
	e, fault := read(w.at())
	if fault != api.FaultNone {
		return fault
	}
	if e.isWrong() {
		return w.wrong
	}
	if e.isLeaf() {
		return w.stop(e)
	}
	if w.level == 0 {
		return w.wrong
	}
	w.table, w.level = e.number(), w.level-1
	goto next
}

// at is the address of the entry that the walk looks at. Behind a fault of its reading it is that entry's still.
func (w *walk) at() uint64 {
	number := w.addr / api.PageSize >> (levelBits * w.level) % (1 << levelBits)
	return w.table*api.PageSize + number*entrySize
}

// load reads an entry at a physical address.
func (w *walk) load(pa uint64) (entry, int) {
	v, ok := w.m.Read(pa, entrySize)
	if !ok {
		return 0, api.FaultBus
	}
	return entry(v), api.FaultNone
}

// stop ends the walk at a leaf, whose pages must begin where such pages may.
func (w *walk) stop(leaf entry) int {
	if leaf.number()%w.pages() != 0 {
		return w.wrong
	}
	w.leaf = leaf
	return api.FaultNone
}

// pages is how many pages a leaf of the walk's level has.
func (w *walk) pages() uint64 { return 1 << (levelBits * w.level) }

// place is where the address comes to by the leaf.
func (w *walk) place() uint64 {
	number := w.leaf.number() + w.addr/api.PageSize%w.pages()
	return number*api.PageSize + w.addr%api.PageSize
}
