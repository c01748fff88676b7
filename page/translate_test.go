package page_test

import (
	"testing"

	"citadel/api"
)

// P4.2: with satp's [63:60] 0 the address is the guest-physical one itself, whatever else satp says.
func TestTranslateWithoutTables(t *testing.T) {
	w := newWorld(t, api.RamBase, 8)
	w.lead(w.threes(), 0x5000, 0, pte(7, full&^api.PteX))
	root := w.frame(1)
	for _, s := range []uint64{0, 77, w.frame(3), 1<<60 - 1} {
		for _, e := range []api.Env{{Satp: s, Root: root}, {Satp: s, Root: root, User: true}, {Satp: s, Root: root, Sum: true, Mxr: true}} {
			w.at(e, 0x5008, api.Load, here(0x7008, 0x5008))
			w.at(e, 0x5008, api.Store, here(0x7008, 0x5008))
			w.at(e, 0x5008, api.Fetch, blocked(0x5008, api.FaultGuest))
			w.at(e, 0x5008, 9, blocked(0x5008, api.FaultGuest))
			w.at(e, 0x6008, api.Load, blocked(0x6008, api.FaultGuest))
			for _, va := range []uint64{1 << 39, 1<<39 + 0x5008, ones, ones - 1<<38 + 1} {
				w.at(e, va, api.Load, blocked(va, api.FaultGuest))
			}
			e.Root = w.frame(8)
			w.at(e, 0x5008, api.Load, blocked(0x5008, api.FaultBus))
			w.at(e, 0x5008, 9, blocked(0x5008, api.FaultBus))
			e.Root = 1<<52 + w.frame(1)
			w.at(e, 0x5008, api.Load, blocked(0x5008, api.FaultBus))
			w.at(e, 1<<39, api.Load, blocked(1<<39, api.FaultGuest))
		}
	}
}

// P4.2: 8 has tables, 0 none, and any other is a fault, ahead of all else.
func TestTranslateModes(t *testing.T) {
	w := newWorld(t, 0, 8)
	w.lead(w.threes(), 0x5000, 0, pte(7, own))
	for mode := range uint64(16) {
		for _, root := range []uint64{0, w.frame(8), ones} {
			for _, asid := range []uint64{0, 1, 1 << 15, 1<<16 - 1} {
				e := api.Env{Satp: mode<<60 | asid<<44 | 1, Root: root}
				for _, access := range accesses {
					right := access >= api.Fetch && access <= api.Store
					switch {
					case mode != 0 && mode != 8:
						w.at(e, 0x5008, access, pageFault())
					case mode == 0 && root == 0:
						w.at(e, 0x5008, access, here(0x5008, 0x5008))
					case mode == 0:
						w.at(e, 0x5008, access, blocked(0x5008, api.FaultBus))
					case root != 0:
						w.at(e, 0x5008, access, walking(1*size, api.FaultBus))
					case right:
						w.at(e, 0x5008, access, here(0x7008, 0x7008))
					default:
						w.at(e, 0x5008, access, pageFault())
					}
				}
			}
		}
	}
}

// P4.2: the table is the page of satp's low 44 bits, all of them.
func TestTranslateSatp(t *testing.T) {
	w := newWorld(t, 1<<52, 4)
	w.put(w.frame(3), 0, pte(0, own))
	w.at(api.Env{Satp: satp(w.frame(3))}, 0x123, api.Load, here(0x123, 0x123))
	w.at(api.Env{Satp: satp(3)}, 0x123, api.Load, walking(3*size, api.FaultBus))
	for bit := range 44 {
		at := w.frame(3) ^ 1<<bit
		if at < w.frame(0) || at > w.frame(3) {
			w.at(api.Env{Satp: satp(at)}, 5<<30, api.Load, walking(at*size+40, api.FaultBus))
		}
	}
	w.at(api.Env{Satp: satp(1<<44 - 1)}, ones, api.Load, walking(1<<56-8, api.FaultBus))
}

// P4.2: the bits 63 to 39 are all bit 38, else it is a fault, ahead of any entry.
func TestTranslateAddresses(t *testing.T) {
	w := newWorld(t, 2*size, 4)
	table := w.frame(0)
	for i := range uint64(512) {
		w.put(table, i, pte((511-i)*512*512, own))
	}
	e, away := api.Env{Satp: satp(table)}, api.Env{Satp: satp(w.frame(4))}
	for _, va := range []uint64{0, 1, size, 1<<30 - 1, 1 << 37, 1<<38 - 1, ones - 1<<38 + 1, ones - 1<<37, ones - size, ones} {
		gpa := (511-va>>30%512)<<30 + va%(1<<30)
		for _, access := range accesses[:3] {
			w.at(e, va, access, here(gpa, gpa))
		}
		w.at(away, va, api.Load, walking(w.frame(4)*size+va>>30%512*8, api.FaultBus))
		for bit := 38; bit < 64; bit++ {
			w.at(e, va^1<<bit, api.Load, pageFault())
			w.at(away, va^1<<bit, api.Store, pageFault())
		}
	}
	for _, va := range []uint64{1 << 38, 1<<38 + 1, 1<<39 - 1, 1 << 39, 1<<39 + 1, 1<<40 - 1, 1 << 63, 1<<63 - 1, ones - 1<<38, ones - 1<<39, ones - 1<<39 + 1} {
		w.at(e, va, api.Load, pageFault())
		w.at(away, va, 7, pageFault())
	}
}

// P4.2: every one of a first stage's leaf's ten low bits, at every level, for every access and every way to ask.
func TestTranslateLowBits(t *testing.T) {
	const number, va = 512 * 512 * 7, ones&^(1<<38-1) | 5<<30 | 6<<21 | 7<<12 | 0x123
	offsets := [3]uint64{0x123, 7<<12 | 0x123, 6<<21 | 7<<12 | 0x123}
	w := newWorld(t, api.RamBase, 8)
	for level := range 3 {
		w.put(w.frame(1), index(va, 2), 0)
		for low := range uint64(1024) {
			w.lead(w.threes(), va, level, pte(number, low))
			right := low&api.PteV != 0 && low&(api.PteR|api.PteW) != api.PteW
			if right && low&rwx == 0 && level > 0 {
				continue // a table: TestTranslateTables
			}
			for ask := range 8 {
				e := api.Env{Satp: satp(w.frame(1)), User: ask&1 != 0, Sum: ask&2 != 0, Mxr: ask&4 != 0}
				for _, access := range accesses {
					want := pageFault()
					if right && firstLets(e, low, access) {
						want = here(number*size+offsets[level], number*size+offsets[level])
					}
					w.at(e, va, access, want)
				}
			}
		}
	}
}

// firstLets is what the chapter asks of the low bits of a first stage's leaf.
func firstLets(e api.Env, low uint64, access int) bool {
	switch access {
	case api.Fetch:
		if low&api.PteX == 0 {
			return false
		}
	case api.Load:
		if low&api.PteR == 0 && (!e.Mxr || low&api.PteX == 0) {
			return false
		}
	case api.Store:
		if low&api.PteW == 0 || low&api.PteD == 0 {
			return false
		}
	default:
		return false
	}
	if low&api.PteA == 0 {
		return false
	}
	if e.User {
		return low&api.PteU != 0
	}
	return low&api.PteU == 0 || access != api.Fetch && e.Sum
}

// P4.2: an entry that is no leaf is a table above level 0, whatever its other bits are, and a fault at level 0; a bit above 53 makes it wrong.
func TestTranslateTables(t *testing.T) {
	const va = 200<<30 | 510<<21 | 509<<12 | 8
	w := newWorld(t, api.RamBase, 16)
	tables := [3]uint64{w.frame(9), w.frame(0), w.frame(15)}
	e := api.Env{Satp: satp(tables[0])}
	for low := range uint64(1024) {
		if low&(api.PteV|rwx) != api.PteV {
			continue
		}
		for level := 2; level >= 0; level-- {
			w.lead(tables, va, 0, pte(12, own))
			next := uint64(12)
			if level > 0 {
				next = tables[3-level]
			}
			w.put(tables[2-level], index(va, level), pte(next, low))
			for _, user := range []bool{false, true} {
				e.User = user
				if level > 0 && !user {
					w.at(e, va, api.Load, here(12*size+8, 12*size+8))
				} else {
					w.at(e, va, api.Load, pageFault())
				}
			}
			e.User = false
			for bit := 54; bit < 64; bit++ {
				w.put(tables[2-level], index(va, level), 1<<bit|pte(next, low))
				w.at(e, va, api.Load, pageFault())
			}
		}
	}
}

// P4.2: a leaf's number is a multiple of what stands below its level.
func TestTranslateGreatPages(t *testing.T) {
	const va = 4<<30 | 511<<21 | 511<<12 | 0xfff
	numbers := []uint64{0, 1, 511, 512, 513, 512*512 - 512, 512*512 - 1, 512 * 512, 512*512 + 1, 512*512 + 512, 1<<44 - 1, 1<<44 - 512, 1<<44 - 512*512}
	for bit := range 44 {
		numbers = append(numbers, 1<<bit)
	}
	w := newWorld(t, 0, 8)
	e := api.Env{Satp: satp(1)}
	for level, below := range []uint64{1, 512, 512 * 512} {
		w.put(1, 4, 0)
		for _, number := range numbers {
			w.lead(w.threes(), va, level, pte(number, own))
			gpa := number*size + va%(below*size)
			want := pageFault()
			if number%below == 0 {
				want = here(gpa, gpa)
			}
			for _, access := range accesses[:3] {
				w.at(e, va, access, want)
			}
			for bit := 54; bit < 64; bit++ {
				w.put(w.threes()[2-level], index(va, level), 1<<bit|pte(number, own))
				w.at(e, va, api.Load, pageFault())
			}
		}
	}
}

// P4.2: with Root 0, the entry that lies outside the memory is told, at each level, whatever the access is.
func TestTranslateOutside(t *testing.T) {
	const va = 3<<30 | 2<<21 | 511<<12 | 0x77
	for _, base := range bases {
		w := newWorld(t, base, 5)
		tables := [3]uint64{w.frame(4), w.frame(2), w.frame(4)}
		e := api.Env{Satp: satp(tables[0])}
		w.lead(tables, va, 0, pte(9, own))
		w.at(e, va, api.Load, here(9*size+0x77, 9*size+0x77))
		for _, number := range w.outside() {
			for _, access := range accesses {
				w.at(api.Env{Satp: satp(number)}, va, access, walking(number*size+3*8, api.FaultBus))
				w.lead(tables, va, 2, pte(number, api.PteV))
				w.at(e, va, access, walking(number*size+2*8, api.FaultBus))
				w.lead(tables, va, 1, pte(number, api.PteV))
				w.at(e, va, access, walking(number*size+511*8, api.FaultBus))
			}
		}
	}
}
