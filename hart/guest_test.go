package hart_test

import (
	"slices"
	"testing"

	"citadel/api"
)

// Pages of a guest, by their places among those that it has.
const (
	upper  = 4 // its own tables, of the levels 2, 1 and 0
	middle = 5
	lower  = 6
	data   = 7
	code   = 8
	after  = 9 // behind code, for the guest; elsewhere, in the host's memory
	other  = 10
	pages  = 16
)

const (
	// firstPage is the number of the guest's page at place 0.
	firstPage = 0x300
	// firstVirtual is where the guest's own tables have that page.
	firstVirtual = 3<<30 | 2<<21 | 1<<16
	// vmid is that of the guest.
	vmid = 3
)

// pageOf is the guest's number of a page.
func pageOf(i uint64) uint64 { return firstPage + i }

// gpa is the guest-physical address of a page.
func gpa(i uint64) uint64 { return pageOf(i) * size }

// va is the virtual address of a page, by the guest's own tables.
func va(i uint64) uint64 { return firstVirtual + i*size }

// satp is that of the guest's own tables.
const satp = 8<<60 | (firstPage + upper)

// pte is an entry that names a page.
func pte(number, bits uint64) uint64 { return number<<10 | bits }

// index is the number of the entry that an address chooses at a level.
func index(addr uint64, level int) uint64 { return addr >> (12 + 9*level) & 511 }

// entryAt is the guest-physical address of the entry for a virtual address in a table of the guest.
func entryAt(table, addr uint64, level int) uint64 { return gpa(table) + 8*index(addr, level) }

// guest is a world with a second stage, and a guest's own tables.
type guest struct {
	world
	root uint64
}

// newGuest is a guest whose pages all allow everything at the second stage, and at the first to a supervisor. A fence stands
// at the beginning of the page code.
func newGuest(t *testing.T, room int) guest {
	t.Helper()
	w := guest{newWorld(t, base, 32, room), base/size + 1}
	w.second(firstPage*size, 1, pte(base/size+3, api.PteV))
	for i := range uint64(pages) {
		w.allow(i, full)
		w.own(lower, index(va(i), 0), pte(pageOf(i), own))
	}
	w.own(upper, index(va(0), 2), pte(pageOf(middle), api.PteV))
	w.own(middle, index(va(0), 1), pte(pageOf(lower), api.PteV))
	w.set(w.pa(code), 4, 0x0000000f)
	w.c.Enter(w.root, vmid)
	return w
}

// frame is the number of the frame where a page lies: what are neighbours for the guest lie the other way round.
func (w guest) frame(i uint64) uint64 { return base/size + 31 - i }

// pa is the physical address of a page.
func (w guest) pa(i uint64) uint64 { return w.frame(i) * size }

// second writes what a walk of the second stage meets at a level, and above it what leads there.
func (w guest) second(gpa uint64, level int, e uint64) {
	w.t.Helper()
	table := w.root
	for l := 2; l > level; l-- {
		w.set(table*size+8*index(gpa, l), 8, pte(table+1, api.PteV))
		table++
	}
	w.set(table*size+8*index(gpa, level), 8, e)
}

// allow says what the second stage allows of a page, and of no other.
func (w guest) allow(i, bits uint64) {
	w.t.Helper()
	w.second(gpa(i), 0, pte(w.frame(i), bits))
}

// own writes an entry into a table of the guest's own.
func (w guest) own(table, at, e uint64) {
	w.t.Helper()
	w.set(w.pa(table)+8*at, 8, e)
}

// entry is what the TLB learns of a page that allows everything.
func (w guest) entry(i uint64) api.Trans {
	return api.Trans{Vmid: vmid, Page: pageOf(i), Frame: w.frame(i), Perm: rwx}
}

// entries are those of some pages.
func (w guest) entries(is ...uint64) []api.Trans {
	var list []api.Trans
	for _, i := range is {
		list = append(list, w.entry(i))
	}
	return list
}

// holds fails if the TLB's entries are not those.
func (w world) holds(promise string, want ...api.Trans) {
	w.t.Helper()
	if got := w.x.Entries(); !slices.Equal(got, want) {
		w.t.Errorf("%s: the TLB holds %v, not %v", promise, got, want)
	}
}

// at is a supervisor's hart at an address.
func at(pc uint64) api.Hart {
	h := sample()
	h.PC = pc
	return h
}

// virtually is one whose addresses go by the guest's own tables.
func virtually(pc uint64) api.Hart {
	h := at(pc)
	h.Satp = satp
	return h
}
