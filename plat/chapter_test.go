package plat_test

import "citadel/api"

// uart is the chapter's UART: its table, read out cell by cell.
type uart struct {
	queue, sent                       []byte
	ier, fcr, lcr, mcr, scr, dll, dlm byte
	overrun, empty                    bool
}

// latch is LCR's bit 7.
func (c *uart) latch() bool { return c.lcr>>7 == 1 }

// read is Read.
func (c *uart) read(off uint64) (v byte) {
	switch {
	case off == 0 && c.latch():
		v = c.dll
	case off == 0 && len(c.queue) > 0:
		v, c.queue = c.queue[0], c.queue[1:]
	case off == 1 && c.latch():
		v = c.dlm
	case off == 1:
		v = c.ier
	case off == 2:
		v = c.cause()
		if v == 2 {
			c.empty = false
		}
		if c.fcr == 1 {
			v += 0xc0
		}
	case off == 3:
		v = c.lcr
	case off == 4:
		v = c.mcr
	case off == 5:
		v = 0x60
		if len(c.queue) > 0 {
			v += 1
		}
		if c.overrun {
			v += 2
			c.overrun = false
		}
	case off == 6:
		v = 0xb0
	case off == 7:
		v = c.scr
	}
	return v
}

// write is Write.
func (c *uart) write(off uint64, v byte) {
	switch {
	case off == 0 && c.latch():
		c.dll = v
	case off == 0:
		c.sent = append(c.sent, v)
		c.empty = true
	case off == 1 && c.latch():
		c.dlm = v
	case off == 1:
		was := c.ier
		c.ier = v % 16
		if was/2%2 == 0 && c.ier/2%2 == 1 {
			c.empty = true
		}
	case off == 2:
		c.fcr = v % 2
		if v/2%2 == 1 {
			c.queue = nil
		}
	case off == 3:
		c.lcr = v
	case off == 4:
		c.mcr = v % 32
	case off == 7:
		c.scr = v
	}
}

// in is In.
func (c *uart) in(v byte) {
	if len(c.queue) < 16 {
		c.queue = append(c.queue, v)
	} else {
		c.overrun = true
	}
}

// cause is the cause.
func (c *uart) cause() byte {
	return causeOf(c.overrun, len(c.queue) > 0, c.empty, c.ier)
}

// causeOf is the first that holds of those that the chapter lists.
func causeOf(overrun, waits, empty bool, ier byte) byte {
	if overrun && ier/4%2 == 1 {
		return 6
	}
	if waits && ier%2 == 1 {
		return 4
	}
	if empty && ier/2%2 == 1 {
		return 2
	}
	return 1
}

// nobody has claimed a source.
const nobody = -1

// source is what the chapter says of a source.
type source struct {
	told, pulsed bool
	by           int
}

// up tells whether a source is up.
func (s source) up() bool { return s.told || s.pulsed }

// intc is the chapter's interrupt controller: sources, and what each hart lets, one by one.
type intc struct {
	harts   int
	sources [32]source
	lets    [api.MaxVcpus][32]bool
}

// newIntc is NewIntc of harts that there may be.
func newIntc(harts int) *intc {
	c := &intc{harts: harts}
	for i := range c.sources {
		c.sources[i].by = nobody
	}
	return c
}

// level is Level.
func (c *intc) level(src int, up bool) {
	if src >= 1 && src <= 31 {
		c.sources[src].told = up
	}
}

// pulse is Pulse.
func (c *intc) pulse(src int) {
	if src >= 1 && src <= 31 {
		c.sources[src].pulsed = true
	}
}

// lowest is the lowest source that a hart could claim, 0 of none.
func (c *intc) lowest(hart int) int {
	for i := 1; i <= 31; i++ {
		if c.sources[i].up() && c.sources[i].by == nobody && c.lets[hart][i] {
			return i
		}
	}
	return 0
}

// pending is Pending.
func (c *intc) pending(hart int) bool {
	return hart >= 0 && hart < c.harts && c.lowest(hart) != 0
}

// hart is the hart whose register stands at an offset from first on.
func (c *intc) hart(first, off uint64) (int, bool) {
	for h := range c.harts {
		if off == first+4*uint64(h) {
			return h, true
		}
	}
	return 0, false
}

// read is Read.
func (c *intc) read(off uint64, size int) (v uint64, ok bool) {
	if size != 4 {
		return 0, false
	}
	if off == 0 {
		for i, s := range c.sources {
			if s.up() {
				v += 1 << i
			}
		}
		return v, true
	}
	if h, ok := c.hart(0x1000, off); ok {
		for i, lets := range c.lets[h] {
			if lets {
				v += 1 << i
			}
		}
		return v, true
	}
	if h, ok := c.hart(0x2000, off); ok {
		src := c.lowest(h)
		if src != 0 {
			c.sources[src].by = h
			c.sources[src].pulsed = false
		}
		return uint64(src), true
	}
	return 0, false
}

// write is Write.
func (c *intc) write(off uint64, size int, v uint64) bool {
	v %= 1 << 32
	if size != 4 {
		return false
	}
	if h, ok := c.hart(0x1000, off); ok {
		for i := range c.lets[h] {
			c.lets[h][i] = i > 0 && v>>i%2 == 1
		}
		return true
	}
	if h, ok := c.hart(0x2000, off); ok {
		if v < 32 && c.sources[v].by == h {
			c.sources[v].by = nobody
		}
		return true
	}
	return false
}
