package engine_test

import (
	"encoding/binary"

	"citadel/api"
	"citadel/iommu"
	"citadel/ram"
)

// chapter is the chapter read out word by word, over a memory and an IOMMU of its own: what an engine must answer, and
// do. Its registers are bytes.
type chapter struct {
	m      *ram.RAM
	u      *iommu.IOMMU // nil: Flat
	dev    int
	bytes  [behind]byte
	copied uint64
}

// reg is what a register holds.
func (c *chapter) reg(off uint64) uint64 { return binary.LittleEndian.Uint64(c.bytes[off:]) }

// become makes status another.
func (c *chapter) become(v byte) { c.bytes[status] = v }

// within: size 4 or 8, off a multiple of it, within a register.
func within(off uint64, n int) bool {
	for _, m := range []uint64{4, 8} {
		for at := uint64(0); n == int(m) && at < behind; at += m {
			if at == off {
				return true
			}
		}
	}
	return false
}

// read is Read.
func (c *chapter) read(off uint64, n int) (uint64, bool) {
	if !within(off, n) {
		return 0, false
	}
	var b [8]byte
	copy(b[:], c.bytes[off:off+uint64(n)])
	if off/8*8 == control {
		b = [8]byte{}
	}
	return binary.LittleEndian.Uint64(b[:]), true
}

// write is Write.
func (c *chapter) write(off uint64, n int, v uint64) bool {
	if !within(off, n) {
		return false
	}
	if c.reg(status) == running {
		if off == control && v&2 != 0 {
			c.become(idle)
		}
		return true
	}
	if off/8*8 != status {
		copy(c.bytes[off:off+uint64(n)], binary.LittleEndian.AppendUint64(nil, v))
	}
	if off != control {
		return true
	}
	if v&1 != 0 {
		c.become(running)
		c.copied = 0
		n := c.reg(length)
		if n == 0 || n > api.PageSize || c.reg(src)&7 != 0 || c.reg(dst)&7 != 0 || n&7 != 0 {
			c.become(failed)
		}
	} else if v&2 != 0 {
		c.become(idle)
	}
	return true
}

// access is what the engine asks: of the IOMMU, or of the memory alone.
func (c *chapter) access(first uint64, write bool) (uint64, bool) {
	at := first + c.copied
	if c.u != nil {
		return c.u.Access(c.dev, at, 8, write)
	}
	return at, c.m.Has(at, 8)
}

// message is where the engine's message goes.
func (c *chapter) message() (api.Msi, bool) {
	addr, index := c.reg(msi), c.reg(data)
	if addr == 0 {
		return api.Msi{}, false
	}
	if c.u != nil {
		return c.u.Message(c.dev, addr, index)
	}
	if addr == api.MsiBase && index <= 15 {
		return api.Msi{Guest: 1, Irq: 16 + int(index)}, true
	}
	return api.Msi{}, false
}

// step is Step.
func (c *chapter) step() (api.Msi, bool) {
	if c.reg(status) != running {
		return api.Msi{}, false
	}
	from, ok := c.access(c.reg(src), false)
	if !ok {
		c.become(failed)
		return c.message()
	}
	to, ok := c.access(c.reg(dst), true)
	if !ok {
		c.become(failed)
		return c.message()
	}
	b, _ := c.m.Bytes(from, 8)
	c.m.Fill(to, b)
	c.copied += 8
	if c.copied < c.reg(length) {
		return api.Msi{}, false
	}
	c.become(done)
	return c.message()
}

// reset is Reset.
func (c *chapter) reset() { c.bytes, c.copied = [behind]byte{}, 0 }
