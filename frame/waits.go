package frame

import "citadel/api"

// devices is the devices' bit.
const devices uint64 = 1 << 63

// lay makes the list of bits: each hart's at its number, the devices' behind them.
func (p *Pool) lay() {
	for hart := range p.harts {
		p.bits = append(p.bits, uint64(1)<<hart)
	}
	p.bits = append(p.bits, devices)
}

// list is the list of bits.
func (p *Pool) list() []uint64 {
	p.once.Do(p.lay)
	return p.bits
}

// everybody are the bits of all who may remember a frame.
func (p *Pool) everybody() uint64 {
	var all uint64
	for _, bit := range p.list() {
		all |= bit
	}
	return all
}

// Waits is what a frame waits for.
func (p *Pool) Waits(frame int) uint64 {
	if !p.has(frame) {
		return 0
	}
	return p.frames[frame].waits.Load()
}

// Ack says that a hart remembers nothing.
func (p *Pool) Ack(hart int) int {
	if hart < 0 || hart >= p.harts {
		return 0
	}
	return p.forgotten(p.list()[hart])
}

// AckDevices says that the devices remember nothing.
func (p *Pool) AckDevices() int { return p.forgotten(p.list()[p.harts]) }

// forgotten takes a bit from all frames, and tells how many became free by it.
func (p *Pool) forgotten(bit uint64) int {
	n := 0
	for i := range p.frames {
		f := &p.frames[i]
		if f.waits.And(^bit) != bit {
			continue
		}
		// Cleared first: whoever finds it free may take it as it is.
		p.m.Clear(i)
		f.owner = api.Free
		n++
	}
	return n
}
