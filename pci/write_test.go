package pci_test

import "testing"

// full is a bus of three slots of which the second has all bits that are written at 1, or at 0.
func full(t *testing.T, bits uint64) *pair {
	t.Helper()
	p := newPair(t, 2, 255, 3)
	p.on(0, 0x40001000)
	p.write(2, line, 1, 0x5a)
	for off := uint64(0); off < 256; off += 4 {
		p.write(1, off, 4, bits)
	}
	return p
}

// P12.2, P12.3: every byte is written with each size, with all ones and with 0 and what lies between, from bits at 0
// and at 1; just the bits that the table has are turned, of that slot alone.
func TestWriteEverySize(t *testing.T) {
	for _, from := range []uint64{0, ones} {
		for _, size := range sizes {
			for off := uint64(0); off < 256; off += uint64(size) {
				for _, v := range values {
					p := full(t, from)
					p.write(1, off, size, v)
					p.same()
				}
			}
		}
	}
}

// P12.2: which bits of the whole space turn, written by each size: the command's bits 1 and 2, the base's 31 to 12, and
// the byte at 0x3c.
func TestWriteTurns(t *testing.T) {
	turned := map[uint64]uint64{command: 0x06, base + 1: 0xf0, base + 2: 0xff, base + 3: 0xff, line: 0xff}
	for _, size := range sizes {
		b := made(t, 255)
		var first [256]uint64
		for off := range first {
			first[off], _ = b.Read(0, uint64(off), 1)
		}
		for _, v := range []uint64{ones, 0, ones, 0} {
			for off := uint64(0); off < 256; off += uint64(size) {
				if !b.Write(0, off, size, v) {
					t.Fatalf("P12.3: Write(0, %#x, %d, %#x) is refused", off, size, v)
				}
			}
			for off, was := range first {
				reads(t, "P12.2", b, 0, uint64(off), 1, was|turned[uint64(off)]&v)
			}
		}
	}
}

// P12.2: a bit is turned by itself, up and down, and no other one with it.
func TestWriteBitByBit(t *testing.T) {
	for bit := range 32 {
		for _, r := range []struct {
			off     uint64
			written uint64
			beside  uint64
		}{{command, 0x6, 0x00100000}, {base, 0xfffff000, 0}, {line, 0xff, 0x0100}} {
			b := made(t, 1)
			one := uint64(1) << bit
			b.Write(0, r.off, 4, one)
			reads(t, "P12.2", b, 0, r.off, 4, r.beside|one&r.written)
			b.Write(0, r.off, 4, ones)
			b.Write(0, r.off, 4, ^one)
			reads(t, "P12.2", b, 0, r.off, 4, r.beside|^one&r.written)
		}
	}
}

// P12.3: a byte, or a half, of the base or of the command that is written by itself leaves the others.
func TestWritePieces(t *testing.T) {
	b := made(t, 2)
	for _, x := range []struct {
		off           uint64
		size          int
		v             uint64
		base, command uint64
	}{
		{base, 4, 0x12345678, 0x12345000, 0},
		{base, 1, 0xff, 0x12345000, 0},
		{base + 1, 1, 0xab, 0x1234a000, 0},
		{base + 2, 1, 0xcd, 0x12cda000, 0},
		{base + 3, 1, 0xef, 0xefcda000, 0},
		{base, 2, 0x7fff, 0xefcd7000, 0},
		{base + 2, 2, 0x9876, 0x98767000, 0},
		{base + 1, 1, 0x0f, 0x98760000, 0},
		{command, 1, 0xff, 0x98760000, 6},
		{command + 1, 1, 0xff, 0x98760000, 6},
		{command, 1, 2, 0x98760000, 2},
		{command + 1, 1, 0, 0x98760000, 2},
		{command, 2, 0xfffd, 0x98760000, 4},
		{command, 4, 0xfffffffb, 0x98760000, 2},
		{command + 2, 2, 0xffff, 0x98760000, 2},
		{command, 2, 0, 0x98760000, 0},
		{base, 4, 0, 0, 0},
	} {
		if !b.Write(0, x.off, x.size, x.v) {
			t.Errorf("P12.3: Write(0, %#x, %d, %#x) is refused", x.off, x.size, x.v)
		}
		reads(t, "P12.3", b, 0, base, 4, x.base)
		reads(t, "P12.3", b, 0, command, 2, x.command)
		reads(t, "P12.2", b, 0, command+2, 2, 0x0010)
	}
}

// P12.3: the byte at 0x3c takes any, by each size, and the one behind it stays.
func TestWriteLine(t *testing.T) {
	b := made(t, 2)
	for v := range uint64(256) {
		for _, size := range sizes {
			b.Write(0, line, 1, ^v)
			b.Write(0, line, size, ^uint64(0xff)|v)
			reads(t, "P12.2", b, 0, line, 1, v)
			b.Write(0, line+1, 1, v)
			reads(t, "P12.2", b, 0, line, 4, 0x0100|v)
		}
	}
}

// P12.3, R5: of v the low bytes count alone.
func TestWriteLowBytes(t *testing.T) {
	for _, size := range sizes {
		low := uint64(1)<<(8*size) - 1
		for off := uint64(0); off < 256; off += uint64(size) {
			for _, v := range values {
				p, q := full(t, 0x5555555555555555), full(t, 0x5555555555555555)
				p.b.Write(1, off, size, v)
				q.b.Write(1, off, size, v&low)
				p.b.Write(1, off, size, v|^low)
				q.b.Write(1, off, size, v&low)
				for _, at := range []uint64{command, base, line, off &^ 3, (off + 4) &^ 3 % 256} {
					want, _ := q.b.Read(1, at, 4)
					reads(t, "R5", p.b, 1, at, 4, want)
				}
			}
		}
	}
}

// P12.3: slots do not turn one another.
func TestSlotsApart(t *testing.T) {
	p := newPair(t, 1, 2, 3, 4, 5, 6, 7, 8)
	for n := range p.c.slots {
		p.write(n, base, 4, 0x40000000+uint64(n)*0x11111000)
		p.write(n, command, 1, uint64(n))
		p.write(n, line, 1, uint64(0x30+n))
		p.same()
	}
	for n := range p.c.slots {
		for off := uint64(0); off < 256; off += 4 {
			p.write(n, off, 4, ones)
		}
		p.same()
		for off := uint64(0); off < 256; off += 4 {
			p.write(n, off, 4, 0)
		}
		p.same()
	}
}
