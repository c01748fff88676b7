package iommu_test

import (
	"math"
	"testing"

	"citadel/api"
	"citadel/page"
)

// P7.2: the chapter's example.
func TestAccessExample(t *testing.T) {
	w := newWorld(t, 0, 16, 4)
	was := w.all()
	w.stops("P7.2", 1, 0x5000, 8, false)
	w.silent("P7.4", true)
	w.untouched("P7.2", was)
	w.Clear()
	w.ok(w.Ring(15 * size))
	w.blocks("P7.2", 15*size, 1, 0x5000, 8, false, api.BlockNone)
}

// P7.2: what the table allows comes to its place, read and written, wherever the memory begins.
func TestAccessComes(t *testing.T) {
	for _, base := range bases {
		w := plain(t, base, 4)
		w.comes("P7.2", 1, 5*size+8, 8, true, w.at(9)+8)
		w.comes("P7.2", 1, 5*size+8, 8, false, w.at(9)+8)
		w.comes("P7.2", 1, 6*size+4, 4, false, w.at(10)+4)
		w.comes("P7.2", 1, 8*size, 1, false, w.at(12))
		w.comes("P7.2", 1, 6*size-1, 1, true, w.at(10)-1)
		w.has("P7.2",
			api.Trans{Vmid: 1, Page: 5, Frame: w.frame(9), Perm: rwx},
			api.Trans{Vmid: 1, Page: 6, Frame: w.frame(10), Perm: api.PteR | api.PteX},
			api.Trans{Vmid: 1, Page: 8, Frame: w.frame(12), Perm: api.PteR | api.PteX})
		w.silent("P7.4", false)
	}
}

// P7.2: each size at each address of a page's beginning and end: a multiple comes, any other is BlockSize, which asks
// neither the TLB nor the table.
func TestAccessSizes(t *testing.T) {
	for _, n := range []int{1, 2, 4, 8} {
		for _, write := range []bool{false, true} {
			w := plain(t, api.RamBase, 4)
			count := 0
			for off := range uint64(size) {
				if off >= 32 && off < size-32 {
					continue
				}
				if off%uint64(n) == 0 {
					w.comes("P7.2", 1, 5*size+off, n, write, w.at(9)+off)
				} else {
					held := w.Entries()
					w.blocks("P7.2", w.place(count), 1, 5*size+off, n, write, api.BlockSize)
					w.has("P7.2", held...)
					count++
				}
			}
		}
	}
}

// P7.2: a size that is none is BlockSize at every address, a multiple or not, with a table or without.
func TestAccessNoSizes(t *testing.T) {
	w := plain(t, 0, 4)
	count := 0
	for _, n := range noSizes {
		for _, addr := range []uint64{0, 5 * size, 5*size + 1, 5*size + 48, 4 * size, 7 * size, 1 << 39, ones, ones - 7} {
			for dev := range 2 {
				w.blocks("P7.2", w.place(count), dev, addr, n, addr%2 == 0, api.BlockSize)
				count++
			}
		}
	}
	w.has("P7.2")
}

// P7.2: each kind of block alone, read and written.
func TestAccessKinds(t *testing.T) {
	for _, base := range bases {
		for _, write := range []bool{false, true} {
			w := plain(t, base, 4)
			w.blocks("P7.2", w.place(0), 1, 5*size+4, 8, write, api.BlockSize)
			w.blocks("P7.2", w.place(1), 2, 5*size, 8, write, api.BlockNone)
			w.blocks("P7.2", w.place(2), 1, 4*size, 8, write, api.BlockPage)
			w.has("P7.2")
			w.blocks("P7.2", w.place(3), 1, 7*size, 8, write, api.BlockBus)
			w.has("P7.2", api.Trans{Vmid: 1, Page: 7, Frame: w.frame(16), Perm: rwx})
			w.comes("P7.2", 1, 5*size, 8, write, w.at(9))
		}
		w := plain(t, base, 4)
		w.blocks("P7.2", w.place(0), 1, 6*size, 8, true, api.BlockPage)
		w.blocks("P7.2", w.place(1), 1, 8*size, 8, true, api.BlockPage)
		w.has("P7.2")
	}
}

// P7.2: where several kinds hold, the one that the chapter names first is told.
func TestAccessOrder(t *testing.T) {
	w := plain(t, 0, 4)
	w.comes("P7.2", 1, 5*size, 8, true, 9*size)
	w.stops("P7.2", 1, 7*size, 8, true)
	w.tells("P7.2", api.Record{Dev: 1, Kind: api.BlockBus, Addr: 7 * size})
	held := w.Entries()
	for i, x := range []struct {
		dev  int
		addr uint64
		n    int
		kind int
	}{
		{2, 4*size + 4, 8, api.BlockSize}, // of a device without a table
		{1, 4*size + 4, 8, api.BlockSize}, // of a page that is nowhere
		{1, 7*size + 1, 2, api.BlockSize}, // of a page outside the memory
		{1, 4 * size, 5, api.BlockSize},
		{2, 7 * size, 5, api.BlockSize},
		{2, ones, 8, api.BlockSize},
		{2, 4 * size, 8, api.BlockNone}, // of a page that would be nowhere, or outside
		{2, 7 * size, 8, api.BlockNone},
		{2, 1 << 39, 8, api.BlockNone},
		{1, 1 << 39, 8, api.BlockPage}, // where the memory has nothing either
		{1, 7 * size, 8, api.BlockBus},
	} {
		w.blocks("P7.2", w.place(i+1), x.dev, x.addr, x.n, false, x.kind)
		w.has("P7.2", held...)
	}
	w.ok(w.Drop(1)) // though the TLB still says where these pages are
	for i, x := range []struct {
		addr uint64
		n    int
		kind int
	}{{5 * size, 8, api.BlockNone}, {7 * size, 8, api.BlockNone}, {5*size + 1, 8, api.BlockSize}, {7 * size, 0, api.BlockSize}} {
		w.blocks("P7.2", w.place(i+12), 1, x.addr, x.n, true, x.kind)
		w.has("P7.2", held...)
	}
}

// P7.2: of no device an access is blocked, whatever else blocks it, without a record and without the flag.
func TestAccessOfNoDevice(t *testing.T) {
	w := plain(t, 0, 4)
	for dev := range api.MaxDevs {
		w.ok(w.Set(dev, 1))
	}
	none := newWorld(t, 0, 4, 1)
	filled := plain(t, 0, 4)
	for range api.RingSize - 1 {
		filled.Access(0, 0, 0, false)
	}
	for _, dev := range noDevs {
		for _, x := range []world{w, none, filled} {
			for _, addr := range []uint64{0, 5 * size, 5*size + 1, 7 * size, ones} {
				for _, n := range []int{8, 1, 0, 3, -1} {
					was := x.all()
					x.stops("P7.2", dev, addr, n, addr == 0)
					x.untouched("P7.2", was)
					x.flag("P7.2", false)
					x.has("P7.2")
				}
			}
		}
	}
	w.silent("P7.2", false)
	none.silent("P7.2", false)
}

// P7.2: addresses beyond what a table reaches, up to the last ones, are BlockPage.
func TestAccessFarAddresses(t *testing.T) {
	w := plain(t, 0, 4)
	w.lead(1, 1<<39-size, 0, pte(13, full))
	w.comes("P7.2", 1, 1<<39-8, 8, true, 14*size-8)
	for i, addr := range []uint64{1 << 39, 1<<39 + 5*size, 1<<40 + 5*size, 1<<52 + 5*size, 1<<63 + 5*size, ones - 7, ones&^(size-1) - size, 1<<63 - 8} {
		w.blocks("P7.2", w.place(2*i), 1, addr, 8, false, api.BlockPage)
		w.blocks("P7.2", w.place(2*i+1), 1, addr, 8, true, api.BlockPage)
	}
	w.blocks("P7.2", w.place(16), 1, ones, 1, true, api.BlockPage)
	w.blocks("P7.2", w.place(17), 1, ones-1, 2, true, api.BlockPage)
	w.blocks("P7.2", w.place(18), 1, ones-3, 4, true, api.BlockPage)
	w.blocks("P7.2", w.place(19), 1, ones-3, 8, true, api.BlockSize)
}

// P7.2: the memory's last place, and its first, are in it; one further on either side is BlockBus, by the table and by
// the entry that it left.
func TestAccessLastPlace(t *testing.T) {
	for _, base := range bases {
		for _, n := range []int{1, 2, 4, 8} {
			w := plain(t, base, 8)
			w.lead(1, 10*size, 0, pte(w.frame(14), full))
			w.lead(1, 11*size, 0, pte(w.frame(0), full))
			w.lead(1, 12*size, 0, pte(w.frame(-1)&(1<<44-1), full))
			w.lead(1, 14*size, 0, pte(1<<44-1, full))
			w.lead(1, 15*size, 0, pte(w.frame(15), full))
			last := uint64(size - n)
			for range 2 {
				w.comes("P7.2", 1, 15*size+last, n, true, w.at(15)+last)
				w.comes("P7.2", 1, 10*size+last, n, true, w.at(14)+last)
				w.comes("P7.2", 1, 11*size, n, true, base)
			}
			for i := range 2 {
				w.blocks("P7.2", w.place(6*i), 1, 7*size, n, true, api.BlockBus)
				w.blocks("P7.2", w.place(6*i+1), 1, 7*size+last, n, false, api.BlockBus)
				w.blocks("P7.2", w.place(6*i+2), 1, 12*size, n, false, api.BlockBus)
				w.blocks("P7.2", w.place(6*i+3), 1, 12*size+last, n, true, api.BlockBus)
				w.blocks("P7.2", w.place(6*i+4), 1, 14*size+last, n, true, api.BlockBus)
				w.blocks("P7.2", w.place(6*i+5), 1, 14*size, n, false, api.BlockBus)
			}
			if got := len(w.Entries()); got != 6 {
				t.Errorf("P7.2: %d entries: what leads out of the memory goes into the TLB too", got)
			}
		}
	}
}

// P7.2: all that makes page.Guest fault is BlockPage, of a table outside the memory too (FaultBus), and leaves the TLB
// as it was. Over all low bits of a leaf what is blocked is what page.Guest faults at, and Perm is what it tells.
func TestAccessByLeaf(t *testing.T) {
	const addr = 3<<30 | 2<<21 | 5<<12
	for level := range 3 {
		for bits := range uint64(1 << 10) {
			for _, write := range []bool{false, true} {
				w := newWorld(t, 0, 16, 2)
				w.ok(w.Ring(15 * size))
				w.ok(w.Set(4, 1))
				w.lead(1, addr, level, pte(0, bits))
				kind := api.Load
				if write {
					kind = api.Store
				}
				pa, perm, fault := page.Guest(w.m, 1, addr, kind)
				if fault != api.FaultNone {
					w.blocks("P7.2", 15*size, 4, addr, 4, write, api.BlockPage)
					w.has("P7.2")
					continue
				}
				if w.m.Has(pa, 4) {
					w.comes("P7.2", 4, addr, 4, write, pa)
				} else {
					w.blocks("P7.2", 15*size, 4, addr, 4, write, api.BlockBus)
				}
				w.has("P7.2", api.Trans{Vmid: 4, Page: addr / size, Frame: pa / size, Perm: perm})
			}
		}
	}
}

// P7.2: tables and entries that fault: outside the memory, with high bits, in a loop, leaves that begin where none may.
func TestAccessWrongTables(t *testing.T) {
	for i, e := range []uint64{
		0, ones, pte(16, api.PteV), pte(99, api.PteV), pte(1<<44-1, api.PteV), pte(2, api.PteV) | 1<<54, pte(2, api.PteV) | 1<<63,
		pte(2, api.PteV|api.PteW), pte(1, api.PteV), pte(1, full), pte(512, full), pte(512*512+1, full),
	} {
		for _, write := range []bool{false, true} {
			w := plain(t, 0, 2)
			w.set(1*size, e)
			w.blocks("P7.2", w.place(0), 1, 0, 8, write, api.BlockPage)
			w.has("P7.2")
			if t.Failed() {
				t.Fatalf("entry %d", i)
			}
		}
	}
	for _, root := range []uint64{16, 17, 99, 1 << 44, 1<<52 - 1, 1 << 52, 1<<52 + 1, 1 << 63, ones} {
		w := plain(t, 0, 2)
		w.ok(w.Set(1, root))
		w.blocks("P7.2", w.place(0), 1, 5*size, 8, false, api.BlockPage)
		w.blocks("P7.2", w.place(1), 1, 5*size, 8, true, api.BlockPage)
		w.has("P7.2")
	}
}

// P7.2: a leaf of many pages leaves the one entry of the page that was asked for.
func TestAccessByGreatLeaf(t *testing.T) {
	w := newWorld(t, 0, 16, 4)
	w.ok(w.Set(0, 1))
	w.lead(1, 1<<21, 1, pte(0, full))
	w.lead(1, 5<<30, 2, pte(0, full&^api.PteX))
	w.comes("P7.2", 0, 1<<21+7*size+16, 8, true, 7*size+16)
	w.comes("P7.2", 0, 5<<30+9*size+1, 1, true, 9*size+1)
	w.comes("P7.2", 0, 5<<30+10*size+2, 2, false, 10*size+2)
	w.has("P7.2",
		api.Trans{Vmid: 0, Page: 1<<9 + 7, Frame: 7, Perm: rwx},
		api.Trans{Vmid: 0, Page: 5<<18 + 9, Frame: 9, Perm: api.PteR | api.PteW},
		api.Trans{Vmid: 0, Page: 5<<18 + 10, Frame: 10, Perm: api.PteR | api.PteW})
}

// P7.2: an entry that allows the access is gone by, whatever the table says by now; nothing turns in the TLB.
func TestAccessByEntry(t *testing.T) {
	w := plain(t, 0, 4)
	w.comes("P7.2", 1, 5*size, 8, false, 9*size)
	w.comes("P7.2", 1, 6*size, 8, false, 10*size)
	held := w.Entries()
	w.lead(1, 5*size, 0, 0)
	w.lead(1, 6*size, 0, pte(13, full))
	w.comes("P7.2", 1, 5*size+16, 8, true, 9*size+16)
	w.comes("P7.2", 1, 5*size+16, 8, false, 9*size+16)
	w.comes("P7.2", 1, 6*size, 8, false, 10*size)
	w.has("P7.2", held...)
	w.set(1*size, 0)
	w.comes("P7.2", 1, 5*size, 8, true, 9*size)
	w.comes("P7.2", 1, 6*size+8, 8, false, 10*size+8)
	w.ok(w.Set(1, 999))
	w.comes("P7.2", 1, 5*size, 8, true, 9*size)
	w.has("P7.2", held...)
}

// P7.2: behind an entry that does not allow the access the table is asked; what it says goes into the TLB in the
// entry's stead, as the last one; where it faults the entry stays.
func TestAccessBesideEntry(t *testing.T) {
	w := plain(t, 0, 4)
	w.comes("P7.2", 1, 6*size, 8, false, 10*size)
	w.comes("P7.2", 1, 5*size, 8, false, 9*size)
	held := w.Entries()
	w.blocks("P7.2", w.place(0), 1, 6*size, 8, true, api.BlockPage)
	w.has("P7.2", held...)
	w.lead(1, 6*size, 0, pte(13, full&^api.PteX))
	w.comes("P7.2", 1, 6*size, 8, true, 13*size)
	w.has("P7.2", held[1], api.Trans{Vmid: 1, Page: 6, Frame: 13, Perm: api.PteR | api.PteW})
	w.lead(1, 8*size, 0, pte(12, full&^api.PteD))
	w.comes("P7.2", 1, 8*size, 8, false, 12*size)
	w.lead(1, 8*size, 0, pte(99, full))
	w.blocks("P7.2", w.place(1), 1, 8*size, 8, true, api.BlockBus)
	w.blocks("P7.2", w.place(2), 1, 8*size, 8, false, api.BlockBus)
}

// P7.2: of an entry's Perm PteR alone counts for a read, and PteW alone for a write.
func TestAccessByPerm(t *testing.T) {
	for perm := range 1 << 8 {
		for _, write := range []bool{false, true} {
			w := plain(t, 0, 4) // its page 4 is nowhere
			e := api.Trans{Vmid: 1, Page: 4, Frame: 11, Perm: perm}
			w.Put(e)
			if write && perm&api.PteW != 0 || !write && perm&api.PteR != 0 {
				w.comes("P7.2", 1, 4*size+40, 8, write, 11*size+40)
			} else {
				w.blocks("P7.2", w.place(0), 1, 4*size+40, 8, write, api.BlockPage)
			}
			w.has("P7.2", e)
		}
	}
}

// P7.2: an entry of another device, or of another page, is not gone by.
func TestAccessByOtherEntry(t *testing.T) {
	w := plain(t, 0, 8)
	w.ok(w.Set(2, 4)) // an empty table
	for i, e := range []api.Trans{
		{Vmid: 2, Page: 4, Frame: 11, Perm: rwx}, {Vmid: 0, Page: 4, Frame: 11, Perm: rwx}, {Vmid: 1, Page: 3, Frame: 11, Perm: rwx},
		{Vmid: 4, Page: 1, Frame: 11, Perm: rwx}, {Vmid: 1, Page: 4 | 1<<52, Frame: 11, Perm: rwx}, {Vmid: -1, Page: 4, Frame: 11, Perm: rwx}, {Vmid: 1 + api.MaxDevs, Page: 4, Frame: 11, Perm: rwx},
	} {
		w.Put(e)
		w.blocks("P7.2", w.place(i), 1, 4*size, 8, false, api.BlockPage)
	}
	w.comes("P7.2", 2, 4*size, 8, true, 11*size)
	w.blocks("P7.2", w.place(7), 0, 4*size, 8, false, api.BlockNone)
	w.FlushAll()
	w.comes("P7.2", 1, 5*size, 8, true, 9*size)
	w.blocks("P7.2", w.place(8), 2, 5*size, 8, true, api.BlockPage)
}

// P7.2: devices that share a table have an entry each.
func TestAccessSharedTable(t *testing.T) {
	w := plain(t, 0, 4)
	w.ok(w.Set(7, 1))
	w.comes("P7.2", 1, 5*size, 8, false, 9*size)
	w.comes("P7.2", 7, 5*size, 8, false, 9*size)
	w.has("P7.2", api.Trans{Vmid: 1, Page: 5, Frame: 9, Perm: rwx}, api.Trans{Vmid: 7, Page: 5, Frame: 9, Perm: rwx})
}

// R1, R5: an entry may lead anywhere; what does not lie in the memory is BlockBus.
func TestAccessByAnyEntry(t *testing.T) {
	for _, frame := range []uint64{16, 1 << 20, 1<<44 - 1, 1<<52 - 1, ones >> 12, 1<<52 - 1 + 1<<51, math.MaxInt64} {
		w := plain(t, 0, 4)
		w.Put(api.Trans{Vmid: 1, Page: 1 << 51, Frame: frame, Perm: rwx})
		w.blocks("P7.2", w.place(0), 1, 1<<63+size-8, 8, true, api.BlockBus)
		w.Put(api.Trans{Vmid: 1, Page: 1 << 51, Frame: 3, Perm: rwx})
		w.comes("P7.2", 1, 1<<63+size-8, 8, true, 4*size-8)
	}
}
