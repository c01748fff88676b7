package iommu_test

import (
	"testing"

	"citadel/api"
)

// nth is the record of the nth blocked access of a test; its address tells it from all others.
func nth(i int) api.Record {
	return api.Record{Dev: i % api.MaxDevs, Kind: api.BlockNone, Addr: uint64(i)*0x0101010101010101 + 8}
}

// block has the nth access blocked, of a device without a table.
func (w world) block(i int) {
	w.t.Helper()
	w.stops("P7.2", nth(i).Dev, nth(i).Addr, 1, i%2 == 0)
}

// P7.4: a ring is a page's beginning that lies in the memory; any other is refused.
func TestRingRefused(t *testing.T) {
	for _, base := range bases {
		for _, frames := range []int{1, 2, 16} {
			end := base + uint64(frames)*size
			for i := range frames {
				w := newWorld(t, base, frames, 1)
				w.ok(w.Ring(base + uint64(i)*size))
				w.silent("P7.4", false)
			}
			w := newWorld(t, base, frames, 1)
			for _, addr := range []uint64{base + 1, base + 8, base + 16, base + 2048, base + size - 1, end - 1, end - 16, end, end + 1, end + size, base - 1, base - size, base + 1<<63, ones, ones - 15, ones &^ (size - 1), 1 << 63} {
				w.refused("P7.4: Ring", w.Ring(addr))
			}
			was := w.all()
			w.block(0) // there is no ring still
			w.silent("P7.4", true)
			w.untouched("P7.4", was)
		}
	}
}

// P7.4, R2: a refused Ring leaves the ring, what stands in it, its places and the flag as they are.
func TestRingRefusedLeavesAll(t *testing.T) {
	w := newWorld(t, size, 4, 1)
	w.ok(w.Ring(2 * size))
	w.block(0)
	w.block(1)
	for _, addr := range []uint64{0, 1, size + 1, 5 * size, ones} {
		w.refused("P7.4: Ring", w.Ring(addr))
		w.flag("P7.4", false)
	}
	w.tells("R2", nth(0))
	was := w.all()
	w.block(2)
	w.same("R2", was, 2*size+32, wire(nth(2)))
	w.tells("R2", nth(1))
	w.tells("R2", nth(2))
	w.silent("R2", false)
}

// P7.4: a ring may be any page of the memory, that at the address 0 too, and its records stand there byte by byte.
func TestRingPlaces(t *testing.T) {
	for _, base := range bases {
		for i := range 4 {
			w := newWorld(t, base, 4, 1)
			w.m.Fill(base, make([]byte, 4*size))
			w.ok(w.Ring(w.at(i)))
			for n := range 5 {
				was := w.all()
				w.block(n)
				w.same("P7.4", was, w.at(i)+uint64(n)*16, wire(nth(n)))
			}
			for n := range 5 {
				w.tells("P7.4", nth(n))
			}
			w.silent("P7.4", false)
		}
	}
}

// P7.4: the bytes of one record: Dev, Kind, Addr, the lowest first; what stood there is written over, all 16 bytes.
func TestRecordBytes(t *testing.T) {
	w := newWorld(t, 0, 1, 1)
	for i := range uint64(size / 8) {
		w.set(8*i, ones)
	}
	w.ok(w.Ring(0))
	was := w.all()
	w.Access(6, 0x0123456789abcdef, 4, false)
	w.same("P7.4", was, 0, []byte{6, 0, 0, 0, api.BlockSize, 0, 0, 0, 0xef, 0xcd, 0xab, 0x89, 0x67, 0x45, 0x23, 0x01})
	was = w.all()
	w.Message(7, 0xfedcba9876543210, 0)
	w.same("P7.4", was, 16, []byte{7, 0, 0, 0, api.BlockMsi, 0, 0, 0, 0x10, 0x32, 0x54, 0x76, 0x98, 0xba, 0xdc, 0xfe})
}

// P7.4: RingSize - 1 records have room, from each place on, round the end; what comes then sets the flag alone. When so
// many are told, so many have room again.
func TestRingFull(t *testing.T) {
	for _, from := range []int{0, 1, 2, 100, api.RingSize - 2, api.RingSize - 1, api.RingSize, api.RingSize + 1, 3*api.RingSize - 1} {
		for _, n := range []int{0, 1, api.RingSize - 3, api.RingSize - 2, api.RingSize - 1, api.RingSize, api.RingSize + 1, 2 * api.RingSize} {
			for _, told := range []int{0, 1, 2, api.RingSize - 2, api.RingSize - 1, api.RingSize} {
				w := newWorld(t, size, 2, 1)
				w.ok(w.Ring(size))
				w.run(from, n, told)
			}
		}
	}
}

// run has so many records told at once, then n blocked, then some told, and as many blocked again, and two more.
func (w world) run(from, n, told int) {
	w.t.Helper()
	for i := range from {
		w.block(i)
		w.tells("P7.4", nth(i))
	}
	w.silent("P7.4", false)
	var untold []int
	next, lost := from, false
	block := func(i int) {
		w.t.Helper()
		was := w.all()
		w.block(i)
		if len(untold) < api.RingSize-1 {
			w.same("P7.4", was, size+uint64(next%api.RingSize)*16, wire(nth(i)))
			untold, next = append(untold, i), next+1
		} else {
			w.untouched("P7.4", was)
			lost = true
		}
		w.flag("P7.4", lost)
	}
	for i := range n {
		block(1000 + i)
	}
	told = min(told, len(untold))
	for _, i := range untold[:told] {
		w.tells("P7.4", nth(i))
		w.flag("P7.4", lost)
	}
	untold = untold[told:]
	w.Clear()
	lost = false
	for i := range min(told, 3) + 2 {
		block(3000 + i)
	}
	for _, i := range untold {
		w.tells("P7.4", nth(i))
	}
	w.silent("P7.4", lost)
}

// P7.4: telling does not turn the memory, and a record that is told is not told again.
func TestNextTurnsNothing(t *testing.T) {
	w := newWorld(t, 0, 2, 1)
	w.ok(w.Ring(size))
	for i := range 3 {
		w.block(i)
	}
	was := w.all()
	for i := range 3 {
		w.tells("P7.4", nth(i))
		w.untouched("P7.4", was)
	}
	for range 3 {
		w.silent("P7.4", false)
	}
	w.untouched("P7.4", was)
}

// P7.4: a record is told as it stands in the memory now, whatever was written there, without signs.
func TestRecordWrittenOver(t *testing.T) {
	w := newWorld(t, 0, 2, 1)
	w.ok(w.Ring(size))
	for i := range 5 {
		w.block(i)
	}
	w.m.Write(size, 8, 0)
	w.m.Write(size+8, 8, 0)
	w.m.Fill(size+16, wire(api.Record{Dev: 99, Kind: 77, Addr: 5}))
	w.m.Write(size+32, 8, ones)
	w.m.Write(size+40, 8, ones)
	w.m.Write(size+48, 4, 1<<31)
	w.m.Write(size+52, 4, 1<<31+5)
	w.tells("P7.4", api.Record{})
	w.tells("P7.4", api.Record{Dev: 99, Kind: 77, Addr: 5})
	w.tells("P7.4", api.Record{Dev: 1<<32 - 1, Kind: 1<<32 - 1, Addr: ones})
	w.tells("P7.4", api.Record{Dev: 1 << 31, Kind: 1<<31 + 5, Addr: nth(3).Addr})
	w.m.Clear(1)
	w.tells("P7.4", api.Record{})
	w.silent("P7.4", false)
	// What is written where no record waits is not told.
	w.m.Fill(size+5*16, wire(nth(8)))
	w.silent("P7.4", false)
}

// P7.4: a ring that is set anew is empty, and begins at its first place, the same page again too; what stood in it, and
// in the old one, stays in the memory. The flag stays as it is.
func TestRingSetAnew(t *testing.T) {
	for _, lost := range []bool{false, true} {
		for _, anew := range []int{1, 2} {
			for _, told := range []int{0, 1, 3} {
				w := newWorld(t, 0, 4, 1)
				if lost {
					w.block(0)
				}
				w.ok(w.Ring(size))
				for i := range 3 {
					w.block(i)
				}
				for i := range told {
					w.tells("P7.4", nth(i))
				}
				was := w.all()
				w.ok(w.Ring(uint64(anew) * size))
				w.untouched("P7.4", was)
				w.silent("P7.4", lost)
				w.block(9)
				w.same("P7.4", was, uint64(anew)*size, wire(nth(9)))
				w.tells("P7.4", nth(9))
				w.silent("P7.4", lost)
			}
		}
	}
}

// P7.4: a full ring that is set anew has room again.
func TestFullRingSetAnew(t *testing.T) {
	w := newWorld(t, 0, 4, 1)
	w.ok(w.Ring(size))
	for i := range api.RingSize {
		w.block(i)
	}
	w.flag("P7.4", true)
	w.ok(w.Ring(size))
	w.flag("P7.4", true)
	w.Clear()
	for i := range api.RingSize - 1 {
		w.block(i)
	}
	w.flag("P7.4", false)
	w.block(0)
	w.flag("P7.4", true)
}

// P7.4: the flag stays till Clear, whatever is told meanwhile, and comes again behind it. Clear turns nothing else.
func TestFlag(t *testing.T) {
	w := newWorld(t, 0, 4, 1)
	w.Clear()
	w.silent("P7.4", false)
	w.block(0)
	w.silent("P7.4", true)
	w.block(1)
	w.silent("P7.4", true)
	w.Clear()
	w.silent("P7.4", false)
	w.Clear()
	w.flag("P7.4", false)
	w.block(2)
	w.ok(w.Ring(size))
	w.flag("P7.4", true)
	for i := range api.RingSize - 1 {
		w.block(i)
		w.flag("P7.4", true)
	}
	was := w.all()
	w.Clear()
	w.flag("P7.4", false)
	for i := range 10 {
		w.tells("P7.4", nth(i))
		w.flag("P7.4", false)
	}
	for i := range 10 {
		w.block(1000 + i)
		w.flag("P7.4", false)
	}
	w.block(2000)
	w.flag("P7.4", true)
	w.tells("P7.4", nth(10))
	w.flag("P7.4", true)
	w.block(2001)
	w.flag("P7.4", true)
	copy(was[size+16*255:], wire(nth(1000)))
	for i := 1; i < 10; i++ {
		copy(was[size+16*(i-1):], wire(nth(1000+i)))
	}
	copy(was[size+16*9:], wire(nth(2001)))
	w.untouched("P7.4", was)
}

// P7.4, P7.2: a ring may lie where a table does: what it writes there is what the next walk reads.
func TestRingInTable(t *testing.T) {
	w := plain(t, 0, 4)
	w.ok(w.Ring(3 * size)) // the table of level 0
	w.comes("P7.2", 1, 5*size, 8, false, 9*size)
	for i := range 3 {
		w.blocks("P7.4", 3*size+uint64(i)*16, 2, 11<<10|full, 1, false, api.BlockNone)
	}
	w.Invalidate(1)
	w.comes("P7.2", 1, 5*size, 8, true, 11*size)
}
