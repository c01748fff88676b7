package pci_test

import "citadel/api"

// row is a row of the chapter's table: where it begins, its bytes, what stands there at first, which bits are written.
type row struct {
	off, bytes     int
	first, written uint64
}

// table is the chapter's table for a kind.
func table(kind int) []row {
	k := uint64(kind)
	return []row{
		{0x00, 2, 0x1af4, 0},
		{0x02, 2, 0x1040 + k, 0},
		{0x04, 2, 0, 1<<1 + 1<<2},
		{0x06, 2, 0x0010, 0},
		{0x08, 4, 0xff000001, 0},
		{0x10, 4, 0, 0xfffff000},
		{0x2c, 2, 0x1af4, 0},
		{0x2e, 2, k, 0},
		{0x34, 1, 0x40, 0},
		{0x3c, 1, 0, 0xff},
		{0x3d, 1, 1, 0},
		{0x40, 4, 0x01105009, 0},
		{0x50, 4, 0x02100009, 0},
	}
}

// slot is what the chapter says of a slot: its rows, bit by bit. Of offset off, bit i is the number 8 * off + i.
type slot struct {
	kind         int
	bit, written [256 * 8]bool
}

// newSlot is a slot at its beginning.
func newSlot(kind int) *slot {
	s := &slot{kind: kind}
	for _, r := range table(kind) {
		for i := range 8 * r.bytes {
			s.bit[8*r.off+i] = r.first>>i%2 == 1
			s.written[8*r.off+i] = r.written>>i%2 == 1
		}
	}
	return s
}

// value is what the bits of some bytes are.
func (s *slot) value(off, size int) (v uint64) {
	for i := range 8 * size {
		if s.bit[8*off+i] {
			v += 1 << i
		}
	}
	return v
}

// bus is the chapter's bus.
type bus struct{ slots []*slot }

// newBus is New of kinds that may be.
func newBus(kinds []int) *bus {
	c := &bus{}
	for _, k := range kinds {
		c.slots = append(c.slots, newSlot(k))
	}
	return c
}

// at is a slot, nil of none.
func (c *bus) at(n int) *slot {
	for i, s := range c.slots {
		if i == n {
			return s
		}
	}
	return nil
}

// kind is Kind.
func (c *bus) kind(n int) int {
	if s := c.at(n); s != nil {
		return s.kind
	}
	return 0
}

// may tells whether so many bytes may be asked for at an offset.
func may(off uint64, size int) bool {
	if size != 1 && size != 2 && size != 4 {
		return false
	}
	n := uint64(size)
	return off/n*n == off && off <= 256 && off+n <= 256
}

// read is Read.
func (c *bus) read(n int, off uint64, size int) (uint64, bool) {
	if !may(off, size) {
		return 0, false
	}
	s := c.at(n)
	if s != nil {
		return s.value(int(off), size), true
	}
	switch size {
	case 1:
		return 0xff, true
	case 2:
		return 0xffff, true
	}
	return 0xffffffff, true
}

// write is Write.
func (c *bus) write(n int, off uint64, size int, v uint64) bool {
	if !may(off, size) {
		return false
	}
	if s := c.at(n); s != nil {
		for i := range 8 * size {
			if at := 8*int(off) + i; s.written[at] {
				s.bit[at] = v>>i%2 == 1
			}
		}
	}
	return true
}

// bar is Bar.
func (c *bus) bar(n int) (uint64, bool) {
	s := c.at(n)
	if s == nil {
		return 0, false
	}
	base := s.value(0x10, 4)
	return base, s.bit[8*0x04+1] && base != 0
}

// find is Find.
func (c *bus) find(addr uint64) (int, uint64, bool) {
	for i := range c.slots {
		if base, on := c.bar(i); on && addr >= base && addr <= base+api.PageSize-1 {
			return i, addr - base, true
		}
	}
	return 0, 0, false
}
