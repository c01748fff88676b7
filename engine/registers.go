package engine

// Where the registers are.
const (
	srcAt     = 0x00
	dstAt     = 0x08
	lenAt     = 0x10
	controlAt = 0x18
	statusAt  = 0x20
	msiAt     = 0x28
	dataAt    = 0x30
)

// What bits of control ask for.
const (
	beginBit = 1
	stopBit  = 2
)

// cell is a register that holds what is written to it.
type cell uint64

func (c *cell) tell() uint64        { return uint64(*c) }
func (c *cell) take(bits, v uint64) { *c = cell(uint64(*c)&^bits | v) }

// register is how a register tells what it is, and how it takes v for some of its bits, of which v has no others.
type register struct {
	tell func() uint64
	take func(bits, v uint64)
}

// lay makes the table of the registers.
func (e *Engine) lay() {
	h := &e.held
	e.registers = map[uint64]register{
		srcAt:     {h.src.tell, h.src.take},
		dstAt:     {h.dst.tell, h.dst.take},
		lenAt:     {h.len.tell, h.len.take},
		controlAt: {e.nothing, e.command},
		statusAt:  {h.status.tell, e.leave},
		msiAt:     {h.msi.tell, h.msi.take},
		dataAt:    {h.data.tell, h.data.take},
	}
}

// nothing is what control reads as.
func (e *Engine) nothing() uint64 { return 0 }

// command is what is written to control. A stop counts while it runs, and where nothing begins.
func (e *Engine) command(_, v uint64) {
	switch {
	case v&beginBit != 0 && !e.Busy():
		e.begin()
	case v&stopBit != 0:
		e.held.status = idle
	}
}

// leave is what a write does to status.
func (e *Engine) leave(_, _ uint64) {}

// half are the bits of a low half.
const half = 1<<32 - 1

// part is a register or a half of it: the first of its bits, and all of them.
type part struct {
	shift uint
	bits  uint64
}

// find finds what stands at an offset.
func (e *Engine) find(off uint64, size int) (register, part, bool) {
	p, ok := cut(off, size)
	if !ok {
		return register{}, part{}, false
	}
	e.once.Do(e.lay)
	r, ok := e.registers[off-off%8]
	return r, p, ok
}

// cut tells what part of a register stands at an offset.
func cut(off uint64, size int) (part, bool) {
	switch {
	case size == 8 && off%8 == 0:
		return part{0, 1<<64 - 1}, true
	case size == 4 && off%8 == 0:
		return part{0, half}, true
	case size == 4 && off%8 == 4:
		return part{32, half << 32}, true
	}
	return part{}, false
}

// Read reads a register.
func (e *Engine) Read(off uint64, size int) (uint64, bool) {
	r, p, ok := e.find(off, size)
	if !ok {
		return 0, false
	}
	return (r.tell() & p.bits) >> p.shift, true
}

// Write writes a register. While it runs only control is heard, and of that what stops it: a high half has no such bit.
func (e *Engine) Write(off uint64, size int, v uint64) bool {
	r, p, ok := e.find(off, size)
	if !ok {
		return false
	}
	if !e.Busy() || off == controlAt {
		r.take(p.bits, (v<<p.shift)&p.bits)
	}
	return true
}
