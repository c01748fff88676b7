package stage

import (
	"iter"

	"citadel/api"
	"citadel/ram"
)

// widest is how many bytes the widest number has.
const widest = 8

// view is a guest's memory as the tables in the host's show it.
type view struct {
	m    *ram.RAM
	root uint64 // the page of the root
}

// Has tells whether a guest's bytes are there. No page is mapped so high up that an address could pass 2^64 here.
func (v *view) Has(addr uint64, n int) bool {
	if n < 0 {
		return false
	}
	for n > 0 {
		if _, _, ok := v.leaf(addr / api.PageSize); !ok {
			return false
		}
		rest := api.PageSize - addr%api.PageSize
		addr, n = addr+rest, n-int(rest)
	}
	return true
}

// Read reads a guest's number.
func (v *view) Read(addr uint64, size int) (uint64, bool) {
	at, ok := v.places(addr, size, 0)
	if !ok {
		return 0, false
	}
	var n uint64
	for i, pa := range at[:size] {
		b, _ := v.m.Read(pa, 1)
		n |= b << (8 * i)
	}
	return n, true
}

// Write writes a guest's number.
func (v *view) Write(addr uint64, size int, n uint64) bool {
	at, ok := v.places(addr, size, api.PteW)
	if !ok {
		return false
	}
	for i, pa := range at[:size] {
		v.m.Write(pa, 1, n>>(8*i))
	}
	return true
}

// places are where the bytes of a number lie in the host's memory, if each page of it is mapped with that right (0:
// any). All are found ahead of the first byte that is written: a refused Write turns none, and none turns where the
// others go.
func (v *view) places(addr uint64, size int, right entry) (at [widest]uint64, ok bool) {
	if !isWidth(size) {
		return at, false
	}
	var e entry
	for i := range size {
		if i == 0 || addr%api.PageSize == 0 {
			if _, e, ok = v.leaf(addr / api.PageSize); !ok || e&right != right {
				return at, false
			}
		}
		at[i] = e.number()*api.PageSize + addr%api.PageSize
		addr++
	}
	return at, true
}

// leaf is the entry of a page that is mapped, and where it stands.
func (v *view) leaf(page uint64) (at uint64, e entry, ok bool) {
	if !isPage(page) {
		return 0, 0, false
	}
	at, level := v.down(page)
	if level > 0 {
		return 0, 0, false
	}
	e = v.load(at)
	return at, e, e.isLeaf()
}

// down goes down the tables of a page as far as there are any, and tells where its entry stands in the last one, and
// the level of that: as many tables as are not there yet.
func (v *view) down(page uint64) (at uint64, level int) {
	at, level = entryAt(v.root, indexOf(page, top)), top
	for level > 0 {
		e := v.load(at)
		if !e.isTable() {
			break
		}
		level--
		at = entryAt(e.number(), indexOf(page, level))
	}
	return at, level
}

// entries goes through the entries of a table that are as is says, rising, each with its number in the table.
func (v *view) entries(table uint64, is func(entry) bool) iter.Seq2[uint64, entry] {
	return func(yield func(uint64, entry) bool) {
		for i := range uint64(tableSize) {
			if e := v.load(entryAt(table, i)); is(e) && !yield(i, e) {
				return
			}
		}
	}
}

// load is the entry at a place; where no memory is there is none.
func (v *view) load(at uint64) entry {
	e, _ := v.m.Read(at, entrySize)
	return entry(e)
}

// store makes e the entry at a place.
func (v *view) store(at uint64, e entry) { v.m.Write(at, entrySize, uint64(e)) }

// pageOf is the host's page of a frame.
func (v *view) pageOf(frame int) uint64 { return v.m.Base()/api.PageSize + uint64(frame) }

// frameOf is the frame of a page of the host's.
func (v *view) frameOf(page uint64) int { return int(page - v.m.Base()/api.PageSize) }

// isWidth tells whether numbers of so many bytes are read and written.
func isWidth(size int) bool {
	return size == 1 || size == 2 || size == 4 || size == widest
}
