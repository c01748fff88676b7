package board_test

import (
	"bytes"
	"slices"

	"citadel/api"
	"citadel/engine"
	"citadel/pci"
	"citadel/plat"
	"citadel/virtdev"
	"citadel/virtq"
)

// right is Right, read out: how often each number stands in the list is counted.
func right(harts int, devs []int, disk []byte) bool {
	count := map[int]int{}
	for _, d := range devs {
		count[d]++
	}
	known := count[1] + count[2] + count[3] + count[8]
	if harts < 1 || harts > 64 || len(devs) > 8 || known != len(devs) {
		return false
	}
	for _, n := range count {
		if n > 1 {
			return false
		}
	}
	if count[2] == 0 {
		return len(disk) == 0
	}
	return len(disk) <= 64*512 && len(disk)%512 == 0
}

// chapter is the chapter read out over the layers below. What the UART has sent it gathers by itself, so that Put needs
// no UART; whose registers are at an address it finds by the slots' bases.
type chapter struct {
	harts   int
	kinds   []int
	uart    *plat.Uart
	lcr     byte
	sent    []byte
	clock   *plat.Clock
	intc    *plat.Intc
	bus     *pci.Bus
	devs    []*virtdev.Dev // by slots; none of DevEngine
	e       *engine.Engine
	plugged bool
}

// newChapter is New, of what may be.
func newChapter(harts int, devs []int, disk []byte, e *engine.Engine) *chapter {
	c := &chapter{harts: harts, kinds: slices.Clone(devs), uart: plat.NewUart(), clock: plat.NewClock()}
	c.intc, _ = plat.NewIntc(harts)
	c.bus, _ = pci.New(devs)
	for _, kind := range devs {
		var d *virtdev.Dev
		switch kind {
		case api.DevBlk:
			d, _ = virtdev.New(kind, disk)
		case api.DevNet, api.DevConsole:
			d, _ = virtdev.New(kind, nil)
		case api.DevEngine:
			c.e, c.plugged = e, true
		}
		c.devs = append(c.devs, d)
	}
	return c
}

// none tells whether a slot counts as none.
func (c *chapter) none(slot int) bool {
	return slot < 0 || slot >= len(c.kinds) || c.kinds[slot] == api.DevEngine && !c.plugged
}

// find is pci's Find, which does not tell a slot that is gone.
func (c *chapter) find(addr uint64) (slot int, off uint64, ok bool) {
	for slot := range c.kinds {
		base, on := c.bus.Bar(slot)
		if on && !c.none(slot) && addr >= base && addr <= base+4095 {
			return slot, addr - base, true
		}
	}
	return 0, 0, false
}

// read is Read.
func (c *chapter) read(addr uint64, size int, now uint64) (v uint64, ok bool) {
	switch {
	case addr >= 0x10000000 && addr <= 0x10000007:
		if size == 1 {
			v, ok = uint64(c.uart.Read(addr-0x10000000)), true
		}
	case addr >= 0x10001000 && addr <= 0x10001fff:
		v, ok = c.clock.Read(addr-0x10001000, size, now)
	case addr >= 0x0c000000 && addr <= 0x0c003fff:
		v, ok = c.intc.Read(addr-0x0c000000, size)
	case addr >= 0x30000000 && addr <= 0x30007fff:
		v, ok = c.readSpace(int(addr>>12&7), addr&0xfff, size)
	default:
		if slot, off, found := c.find(addr); found && c.kinds[slot] == api.DevEngine {
			v, ok = c.e.Read(off, size)
		} else if found {
			v, ok = c.devs[slot].Read(off, size)
		}
	}
	c.levels()
	return v, ok
}

// readSpace reads a slot's space.
func (c *chapter) readSpace(slot int, off uint64, size int) (uint64, bool) {
	if off > 255 || size != 1 && size != 2 && size != 4 || off%uint64(size) != 0 {
		return 0, false
	}
	if c.none(slot) {
		return [5]uint64{1: 0xff, 2: 0xffff, 4: 0xffffffff}[size], true
	}
	return c.bus.Read(slot, off, size)
}

// write is Write.
func (c *chapter) write(m virtq.Mem, addr uint64, size int, v uint64) (ok bool) {
	switch {
	case addr >= 0x10000000 && addr <= 0x10000007:
		if ok = size == 1; ok {
			c.writeUart(addr-0x10000000, byte(v))
		}
	case addr >= 0x10001000 && addr <= 0x10001fff:
	case addr >= 0x0c000000 && addr <= 0x0c003fff:
		ok = c.intc.Write(addr-0x0c000000, size, v)
	case addr >= 0x30000000 && addr <= 0x30007fff:
		slot, off := int(addr>>12&7), addr&0xfff
		if _, ok = c.readSpace(slot, off, size); ok && !c.none(slot) {
			c.bus.Write(slot, off, size, v)
		}
	default:
		if slot, off, found := c.find(addr); found && c.kinds[slot] == api.DevEngine {
			ok = c.e.Write(off, size, v)
		} else if found {
			ok = c.devs[slot].Write(m, off, size, v)
		}
	}
	c.levels()
	return ok
}

// writeUart writes a register of the UART.
func (c *chapter) writeUart(off uint64, v byte) {
	if off == 0 && c.lcr < 0x80 {
		c.sent = append(c.sent, v)
	}
	if off == 3 {
		c.lcr = v
	}
	c.uart.Write(off, v)
}

// in is In.
func (c *chapter) in(m virtq.Mem, port int, b []byte) (ok bool) {
	if port == 0 {
		for _, v := range b {
			c.uart.In(v)
		}
		ok = true
	} else if port > 0 && port <= len(c.kinds) && c.kinds[port-1] != api.DevEngine {
		ok = c.devs[port-1].In(m, b)
	}
	c.levels()
	return ok
}

// dma is Dma.
func (c *chapter) dma() bool {
	if !c.plugged {
		return false
	}
	if to, ok := c.e.Step(); ok {
		c.intc.Pulse(to.Irq)
	}
	c.levels()
	return true
}

// unplug is Unplug.
func (c *chapter) unplug() bool {
	was := c.plugged
	if was {
		c.e.Reset()
	}
	c.plugged = false
	return was
}

// put is Put.
func (c *chapter) put(v byte) {
	c.sent = append(c.sent, v)
	c.levels()
}

// levels is P16.3.
func (c *chapter) levels() {
	c.intc.Level(1, c.uart.Irq())
	for i, kind := range c.kinds {
		if kind != api.DevEngine {
			c.intc.Level(8+i, c.devs[i].Irq())
		}
	}
}

// dev is the device of a kind; nil if there is none.
func (c *chapter) dev(kind int) *virtdev.Dev {
	for _, d := range c.devs {
		if d != nil && d.Kind() == kind {
			return d
		}
	}
	return nil
}

// uartSent, console, disk and take are Uart, Console, Disk and Take.
func (c *chapter) uartSent() []byte { return bytes.Clone(c.sent) }

func (c *chapter) console() []byte {
	if d := c.dev(api.DevConsole); d != nil {
		return d.Out()
	}
	return nil
}

func (c *chapter) disk() []byte {
	if d := c.dev(api.DevBlk); d != nil {
		return d.Disk()
	}
	return nil
}

func (c *chapter) take() [][]byte {
	if d := c.dev(api.DevNet); d != nil {
		return d.Take()
	}
	return nil
}
