package pci_test

import "testing"

// P12.2: the rows of the table, read as the numbers that they are, for each kind.
func TestSpaceRows(t *testing.T) {
	for k := range 256 {
		b := made(t, k)
		for _, r := range []struct {
			off  uint64
			size int
			want uint64
		}{
			{0x00, 2, 0x1af4}, {0x02, 2, 0x1040 + uint64(k)}, {0x04, 2, 0}, {0x06, 2, 0x0010}, {0x08, 4, 0xff000001},
			{0x10, 4, 0}, {0x2c, 2, 0x1af4}, {0x2e, 2, uint64(k)}, {0x34, 1, 0x40}, {0x3c, 1, 0}, {0x3d, 1, 1},
			{0x40, 4, 0x01105009}, {0x50, 4, 0x02100009},
		} {
			reads(t, "P12.2", b, 0, r.off, r.size, r.want)
		}
	}
}

// P12.2: numbers stand lowest byte first, and all bytes that no row has are 0.
func TestSpaceBytes(t *testing.T) {
	for _, x := range []struct {
		kind       int
		low, high  uint64
		own, other uint64
	}{{0, 0x40, 0x10, 0, 0}, {2, 0x42, 0x10, 2, 0}, {0xbf, 0xff, 0x10, 0xbf, 0}, {0xc0, 0x00, 0x11, 0xc0, 0}, {255, 0x3f, 0x11, 255, 0}} {
		want := map[uint64]uint64{
			0x00: 0xf4, 0x01: 0x1a, 0x02: x.low, 0x03: x.high, 0x06: 0x10, 0x08: 0x01, 0x0b: 0xff,
			0x2c: 0xf4, 0x2d: 0x1a, 0x2e: x.own, 0x2f: x.other, 0x34: 0x40, 0x3d: 1,
			0x40: 0x09, 0x41: 0x50, 0x42: 0x10, 0x43: 0x01, 0x50: 0x09, 0x52: 0x10, 0x53: 0x02,
		}
		b := made(t, 7, x.kind)
		for off := range uint64(256) {
			reads(t, "P12.2", b, 1, off, 1, want[off])
		}
	}
}

// P12.3: every byte is read with each size, of every slot, at first and behind writes; a read turns nothing.
func TestReadEverySize(t *testing.T) {
	p := newPair(t, 2, 255, 0)
	for round := range 3 {
		for n := range p.c.slots {
			for _, size := range sizes {
				for off := range uint64(256) {
					p.read(n, off, size) // those that are no multiple are refused
				}
			}
		}
		p.same()
		for n := range p.c.slots {
			for off := uint64(0); off < 256; off += 4 {
				p.write(n, off, 4, []uint64{0x8badf00d + off, ones - off}[round%2]+uint64(n)<<12)
			}
		}
	}
}

// P12.3: the examples of the chapter.
func TestExamples(t *testing.T) {
	b := made(t, 2)
	reads(t, "P12.2", b, 0, 0, 4, 0x10421af4)
	if !b.Write(0, 0x10, 4, 1<<32-1) {
		t.Error("P12.3: the base is not written")
	}
	reads(t, "P12.4", b, 0, 0x10, 4, 0xfffff000)
	if !b.Write(0, 0x10, 4, 0x40001000) || !b.Write(0, 4, 2, 2) {
		t.Error("P12.3: it is not written")
	}
	finds(t, b, 0x40001008, 0, 8)
	reads(t, "P12.3", b, 3, 0, 2, 0xffff)
}

// P12.3: sizes that are none, offsets that are no multiple, and what does not end within 256 are refused, of slots and
// of none, and turn nothing.
func TestRefused(t *testing.T) {
	p := newPair(t, 2, 3)
	p.on(1, 0x40001000)
	refused := func(off uint64, size int) {
		t.Helper()
		for _, n := range append(notSlots(2), 0, 1) {
			if v, ok := p.b.Read(n, off, size); ok || v != 0 {
				t.Errorf("P12.3: Read(%d, %#x, %d) = %#x, %v", n, off, size, v, ok)
			}
			for _, v := range []uint64{0, ones, 0x55aa55aa55aa55aa} {
				if p.b.Write(n, off, size, v) {
					t.Errorf("P12.3: Write(%d, %#x, %d, %#x)", n, off, size, v)
				}
			}
		}
	}
	for _, size := range notSizes {
		for off := range uint64(260) {
			refused(off, size)
		}
		for _, off := range notOffsets {
			refused(off, size)
		}
	}
	for _, size := range sizes {
		for off := range uint64(256) {
			if off%uint64(size) != 0 {
				refused(off, size)
			}
		}
		for _, off := range notOffsets {
			refused(off, size)
		}
	}
	p.same()
}

// P12.3: what ends at 256 is read and written, what ends behind it is not.
func TestLastBytes(t *testing.T) {
	b := made(t, 2)
	for _, size := range sizes {
		off := 256 - uint64(size)
		reads(t, "P12.3", b, 0, off, size, 0)
		if !b.Write(0, off, size, ones) {
			t.Errorf("P12.3: Write(0, %d, %d) is refused", off, size)
		}
		reads(t, "P12.3", b, 0, off, size, 0)
		if _, ok := b.Read(0, off+uint64(size), size); ok || b.Write(0, off+uint64(size), size, 0) {
			t.Errorf("P12.3: there is something of size %d behind the last byte", size)
		}
	}
}

// P12.3: of no slot all ones of the size are read, and a write is taken and turns nothing.
func TestNoSlot(t *testing.T) {
	for _, kinds := range [][]int{{}, {2}, {2, 3, 0}, {1, 2, 3, 4, 5, 6, 7, 8}} {
		p := newPair(t, kinds...)
		for i := range kinds {
			p.on(i, 0x40000000+page*uint64(i))
		}
		for _, n := range notSlots(len(kinds)) {
			for size, want := range map[int]uint64{1: 0xff, 2: 0xffff, 4: 0xffffffff} {
				for off := uint64(0); off < 256; off += uint64(size) {
					reads(t, "P12.3", p.b, n, off, size, want)
					for _, v := range []uint64{0, ones} {
						if !p.b.Write(n, off, size, v) {
							t.Fatalf("P12.3: Write(%d, %#x, %d, %#x) is refused", n, off, size, v)
						}
					}
					reads(t, "P12.3", p.b, n, off, size, want)
				}
			}
			bars(t, p.b, n, 0, false)
		}
		p.same()
	}
}

// R4: two buses have nothing in common.
func TestBusesApart(t *testing.T) {
	kinds := []int{2, 3}
	a, b := newPair(t, kinds...), newPair(t, kinds...)
	for off := uint64(0); off < 256; off += 4 {
		a.write(0, off, 4, ones)
	}
	a.same()
	b.same()
	b.on(1, 0x40001000)
	a.same()
	b.same()
}
