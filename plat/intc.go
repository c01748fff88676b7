package plat

import "citadel/api"

// Intc is an interrupt controller.
type Intc struct {
	level, pulsed set
	harts         []line
}

// line is what the controller has for a hart: the sources that it lets, and those that it has claimed.
type line struct{ lets, claimed set }

// NewIntc is an interrupt controller.
func NewIntc(harts int) (*Intc, api.Errno) {
	if harts < 1 || harts > api.MaxVcpus {
		return nil, api.ErrArg
	}
	return &Intc{harts: make([]line, harts)}, api.OK
}

// Level says whether a source is up.
func (c *Intc) Level(src int, up bool) {
	c.level &^= bit(src)
	if up {
		c.level |= bit(src)
	}
}

// Pulse makes a source up till it is claimed.
func (c *Intc) Pulse(src int) { c.pulsed |= bit(src) }

// Pending tells whether a hart is to be interrupted.
func (c *Intc) Pending(hart int) bool {
	return hart >= 0 && hart < len(c.harts) && c.open(hart) != 0
}

// Read reads a register.
func (c *Intc) Read(off uint64, size int) (uint64, bool) {
	name, hart, ok := c.find(off, size)
	if !ok {
		return 0, false
	}
	switch name {
	case intcLets:
		return uint64(c.harts[hart].lets), true
	case intcClaim:
		return uint64(c.claim(hart)), true
	}
	return uint64(c.up()), true
}

// Write writes a register.
func (c *Intc) Write(off uint64, size int, v uint64) bool {
	name, hart, ok := c.find(off, size)
	if !ok {
		return false
	}
	switch name {
	case intcLets:
		c.harts[hart].lets = set(v) & every
	case intcClaim:
		c.harts[hart].claimed &^= bit(int(uint32(v)))
	default:
		return false
	}
	return true
}

// find tells which register stands at an offset, and whose it is. What is up is told once: it counts as hart 0's.
func (c *Intc) find(off uint64, size int) (name uint64, hart int, ok bool) {
	at := off % intcBlock
	if size != 4 || at%4 != 0 {
		return 0, 0, false
	}
	name, hart = off-at, int(at/4)
	switch name {
	case intcUp:
		return name, hart, hart == 0
	case intcLets, intcClaim:
		return name, hart, hart < len(c.harts)
	}
	return 0, 0, false
}

// up are the sources that are up.
func (c *Intc) up() set { return c.level | c.pulsed }

// claimed are the sources that some hart has claimed.
func (c *Intc) claimed() set {
	var all set
	for _, h := range c.harts {
		all |= h.claimed
	}
	return all
}

// open are the sources that a hart could claim.
func (c *Intc) open(hart int) set { return c.up() &^ c.claimed() & c.harts[hart].lets }

// claim claims the lowest source that a hart could claim, and tells it. Where there is none, it is 0, which has no bit.
func (c *Intc) claim(hart int) int {
	src := c.open(hart).lowest()
	c.pulsed &^= bit(src)
	c.harts[hart].claimed |= bit(src)
	return src
}
