package page_test

import (
	"testing"

	"citadel/api"
)

// threes are tables of the levels 2, 1 and 0 in the frames 1, 2 and 3.
func (w world) threes() [3]uint64 {
	return [3]uint64{w.frame(1), w.frame(2), w.frame(3)}
}

// P4.1: the chapter's examples.
func TestGuestExamples(t *testing.T) {
	w := newWorld(t, 0, 16)
	w.put(1, 0, pte(2, api.PteV))
	w.put(2, 0, pte(3, api.PteV))
	w.put(3, 5, pte(7, full&^api.PteX))
	w.guest(1, 0x5123, api.Load, 0x7123, api.PteR|api.PteW, api.FaultNone)
	w.guest(1, 0x5123, api.Store, 0x7123, api.PteR|api.PteW, api.FaultNone)
	w.faults(1, 0x5123, api.Fetch, api.FaultGuest)
	w.faults(1, 0x6000, api.Load, api.FaultGuest)
	w.faults(1, 1<<39, api.Load, api.FaultGuest)
	w.faults(4096, 0x5123, api.Load, api.FaultBus)
}

// P4.1: of Root 0 there is no second stage: any address, any access, whatever stands in the memory.
func TestGuestWithoutRoot(t *testing.T) {
	w := newWorld(t, 0, 4)
	w.put(0, 0, pte(3, full))
	for _, gpa := range []uint64{0, 1, size - 1, size, 4 * size, 1<<38 - 1, 1 << 38, 1<<39 - 1, 1 << 39, 1<<39 + 1, 1 << 52, 1 << 63, ones} {
		for _, access := range accesses {
			w.guest(0, gpa, access, gpa, rwx, api.FaultNone)
		}
	}
}

// leafLets is what the chapter asks of the low bits of a second stage's leaf.
func leafLets(low uint64, access int) bool {
	want, ok := map[int]uint64{
		api.Fetch: api.PteU | api.PteA | api.PteX,
		api.Load:  api.PteU | api.PteA | api.PteR,
		api.Store: api.PteU | api.PteA | api.PteW | api.PteD,
	}[access]
	return ok && low&want == want
}

// P4.1: every one of the ten low bits, at every level, for every access.
func TestGuestLowBits(t *testing.T) {
	const number, gpa = 512 * 512 * 3, 5<<30 | 6<<21 | 7<<12 | 0x123
	offsets := [3]uint64{0x123, 7<<12 | 0x123, 6<<21 | 7<<12 | 0x123}
	w := newWorld(t, api.RamBase, 8)
	for level := range 3 {
		w.put(w.frame(1), 5, 0)
		for low := range uint64(1024) {
			w.lead(w.threes(), gpa, level, pte(number, low))
			right := low&api.PteV != 0 && low&(api.PteR|api.PteW) != api.PteW
			if right && low&rwx == 0 && level > 0 {
				continue // a table: TestGuestTables
			}
			perm := int(low & rwx)
			if low&api.PteD == 0 {
				perm &^= api.PteW
			}
			for _, access := range accesses {
				if right && leafLets(low, access) {
					w.guest(w.frame(1), gpa, access, number*size+offsets[level], perm, api.FaultNone)
				} else {
					w.faults(w.frame(1), gpa, access, api.FaultGuest)
				}
			}
		}
	}
}

// P4.1: an entry that is no leaf is a table above level 0, whatever its other bits are, and a fault at level 0.
func TestGuestTables(t *testing.T) {
	const gpa = 511<<30 | 510<<21 | 509<<12 | 8
	for _, base := range bases {
		w := newWorld(t, base, 16)
		tables := [3]uint64{w.frame(9), w.frame(0), w.frame(15)}
		for low := range uint64(1024) {
			if low&(api.PteV|rwx) != api.PteV {
				continue
			}
			w.lead(tables, gpa, 0, pte(12, full))
			for level := 2; level > 0; level-- {
				w.put(tables[2-level], index(gpa, level), pte(tables[3-level], low))
			}
			w.guest(tables[0], gpa, api.Load, 12*size+8, rwx, api.FaultNone)
			w.faults(tables[0], gpa^size, api.Load, api.FaultGuest)
			w.lead(tables, gpa, 0, pte(12, low))
			for _, access := range accesses {
				w.faults(tables[0], gpa, access, api.FaultGuest)
			}
		}
	}
}

// P4.1: a bit above 53 makes a leaf wrong, and a table too; bit 53 is the number's highest.
func TestGuestHighBits(t *testing.T) {
	const gpa = 1<<30 | 2<<21 | 3<<12
	w := newWorld(t, api.RamBase, 8)
	for level := range 3 {
		w.put(w.frame(1), 1, 0)
		w.lead(w.threes(), gpa, level, pte(1<<43, full))
		w.guest(w.frame(1), gpa, api.Load, 1<<55+gpa%(size*span(level)), rwx, api.FaultNone)
		for bit := 54; bit < 64; bit++ {
			w.lead(w.threes(), gpa, level, 1<<bit|pte(0, full))
			w.faults(w.frame(1), gpa, api.Load, api.FaultGuest)
			if level > 0 {
				w.lead(w.threes(), gpa, 0, pte(4, full))
				w.lead(w.threes(), gpa, level, 1<<bit|pte(w.frame(uint64(4-level)), api.PteV))
				w.faults(w.frame(1), gpa, api.Load, api.FaultGuest)
				w.lead(w.threes(), gpa, level, pte(w.frame(uint64(4-level)), api.PteV))
				w.guest(w.frame(1), gpa, api.Load, 4*size, rwx, api.FaultNone)
			}
		}
	}
}

// P4.1: the guest-physical address is below 2^39; nothing is cut off it.
func TestGuestAddresses(t *testing.T) {
	for _, base := range bases {
		w := newWorld(t, base, 4)
		root := w.frame(2)
		for i := range uint64(512) {
			w.put(root, i, pte((511-i)*512*512, full))
		}
		for _, gpa := range []uint64{0, 1, size, 1<<30 - 1, 1 << 30, 1<<38 - 1, 1 << 38, 1<<38 + 1, 1<<39 - 1, 1<<39 - size} {
			w.guest(root, gpa, api.Fetch, (511-gpa>>30)<<30+gpa%(1<<30), rwx, api.FaultNone)
		}
		for _, gpa := range []uint64{1 << 39, 1<<39 + 1, 1<<39 + 5*size, 1<<40 - 1, 1 << 52, ones - 1<<38, ones - 1<<38 + 1, ones - 1<<39, ones} {
			w.faults(root, gpa, api.Load, api.FaultGuest)
		}
		for bit := 39; bit < 64; bit++ {
			w.faults(root, 1<<bit, api.Load, api.FaultGuest)
			w.faults(root, 1<<bit|1<<38|size, api.Store, api.FaultGuest)
		}
	}
}

// P4.1: nine bits of the address choose the entry at each level, and twelve stay.
func TestGuestIndexes(t *testing.T) {
	w := newWorld(t, 3*size, 8)
	tables := w.threes()
	for i := range uint64(512) {
		w.put(tables[0], i, pte(tables[1], api.PteV))
		w.put(tables[1], i, pte(tables[2], api.PteV))
		w.put(tables[2], i, pte(1000+i, full))
	}
	for i := range uint64(512) {
		w.guest(tables[0], i<<12|i, api.Load, (1000+i)<<12|i, rwx, api.FaultNone)
		w.put(tables[1], i, 0)
		w.faults(tables[0], i<<21, api.Load, api.FaultGuest)
		w.put(tables[1], i, pte(tables[2], api.PteV))
		w.put(tables[0], i, 0)
		w.faults(tables[0], i<<30, api.Load, api.FaultGuest)
		w.put(tables[0], i, pte(tables[1], api.PteV))
	}
}

// P4.1: a leaf's number is a multiple of what stands below its level; its place goes as far as 2^56.
func TestGuestGreatPages(t *testing.T) {
	const gpa = 4<<30 | 511<<21 | 511<<12 | 0xfff
	numbers := []uint64{0, 1, 511, 512, 513, 1024, 512 * 511, 512*512 - 512, 512*512 - 1, 512 * 512, 512*512 + 1, 512*512 + 512, 2 * 512 * 512, 1<<44 - 1, 1<<44 - 512, 1<<44 - 512*512}
	for bit := range 44 {
		numbers = append(numbers, 1<<bit)
	}
	w := newWorld(t, 0, 8)
	for level, below := range []uint64{1, 512, 512 * 512} {
		w.put(1, 4, 0)
		for _, number := range numbers {
			w.lead(w.threes(), gpa, level, pte(number, full))
			for _, access := range accesses {
				if number%below != 0 || access < api.Fetch || access > api.Store {
					w.faults(1, gpa, access, api.FaultGuest)
				} else {
					w.guest(1, gpa, access, number*size+gpa%(below*size), rwx, api.FaultNone)
				}
			}
		}
	}
}

// outside are pages that are none of a memory's: beside it, and far away.
func (w world) outside() []uint64 {
	pages := []uint64{w.frame(uint64(w.m.Frames())), w.frame(uint64(w.m.Frames())) + 1, 1<<44 - 1, 1 << 43}
	if w.m.Base() > 0 {
		pages = append(pages, 0, w.frame(0)-1)
	}
	return pages
}

// P4.1: a table that lies outside the memory, at each level, for each access; the last frame is in it.
func TestGuestOutside(t *testing.T) {
	const gpa = 3<<30 | 2<<21 | 511<<12
	for _, base := range bases {
		w := newWorld(t, base, 5)
		tables := [3]uint64{w.frame(4), w.frame(2), w.frame(4)}
		w.lead(tables, gpa, 0, pte(9, full))
		w.guest(tables[0], gpa, api.Load, 9*size, rwx, api.FaultNone)
		for _, number := range w.outside() {
			for level := 2; level > 0; level-- {
				w.lead(tables, gpa, level, pte(number, api.PteV))
				for _, access := range accesses {
					w.faults(tables[0], gpa, access, api.FaultBus)
				}
				w.lead(tables, gpa, 0, pte(9, full))
			}
		}
	}
}

// P4.1: roots that lie outside the memory, those among them whose address would begin at 0 again.
func TestGuestRoots(t *testing.T) {
	for _, base := range bases {
		w := newWorld(t, base, 4)
		for i := range uint64(4) {
			w.put(w.frame(i), 0, pte(0, full))
		}
		for i := range uint64(4) {
			if w.frame(i) != 0 {
				w.guest(w.frame(i), 0x123, api.Load, 0x123, rwx, api.FaultNone)
			}
		}
		roots := []uint64{1<<52 - 1, 1 << 52, 1<<52 + 1, 1<<53 - 1, 1 << 53, 1 << 63, ones, ones - 1}
		for bit := 52; bit < 64; bit++ {
			for i := range uint64(4) {
				roots = append(roots, 1<<bit+w.frame(i))
			}
		}
		for _, number := range w.outside() {
			if number != 0 {
				roots = append(roots, number)
			}
		}
		for _, root := range roots {
			for _, access := range accesses {
				w.faults(root, 0x123, access, api.FaultBus)
			}
		}
	}
}

// P4.1: what is found first is told.
func TestGuestOrder(t *testing.T) {
	const gpa = 1<<30 | 1<<21 | 1<<12
	w := newWorld(t, api.RamBase, 4)
	root := w.frame(1)
	for _, beyond := range []uint64{1 << 52, w.frame(4), ones} {
		w.faults(beyond, 1<<39, api.Load, api.FaultGuest) // the address ahead of the first table
		w.faults(beyond, 1<<39, 7, api.FaultGuest)
		w.faults(beyond, 1<<39-1, 7, api.FaultBus) // the walk ahead of the access
	}
	w.lead(w.threes(), gpa, 1, pte(w.frame(4), api.PteV))
	w.faults(root, gpa, 0, api.FaultBus)
	w.put(root, 1, pte(w.frame(2), api.PteV|api.PteW))
	w.faults(root, gpa, api.Load, api.FaultGuest) // a wrong entry ahead of the table that it would lead to
	w.put(root, 1, 1<<54|pte(w.frame(4), api.PteV))
	w.faults(root, gpa, api.Load, api.FaultGuest)
	w.put(root, 1, pte(w.frame(4), api.PteV|api.PteX))
	w.faults(root, gpa, api.Load, api.FaultGuest) // a leaf leads nowhere, even one that is at fault
	w.put(root, 1, pte(w.frame(4)&^1, 0))
	w.faults(root, gpa, api.Load, api.FaultGuest)
	w.lead(w.threes(), gpa, 0, pte(w.frame(4), api.PteV))
	w.faults(root, gpa, api.Load, api.FaultGuest) // at level 0 there is no next table
}

// R1: tables that name themselves, and one another, end like any others.
func TestGuestLoops(t *testing.T) {
	w := newWorld(t, 0, 4)
	for i := range uint64(512) {
		w.put(1, i, pte(1, api.PteV))
		w.put(2, i, pte(3, api.PteV))
		w.put(3, i, pte(2, api.PteV))
	}
	for _, gpa := range []uint64{0, 5 << 12, 1<<39 - 1} {
		for _, access := range accesses {
			w.faults(1, gpa, access, api.FaultGuest)
			w.faults(2, gpa, access, api.FaultGuest)
		}
	}
	w.put(1, 7, pte(3, full))
	w.guest(1, 7<<12|5, api.Load, 3*size+5, rwx, api.FaultNone) // the root itself at levels 2, 1 and 0
}
