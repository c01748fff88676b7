package mmio

import (
	"citadel/api"
	"citadel/inst"
	"citadel/page"
	"citadel/ram"
)

const (
	// halfSize is how many bytes of an instruction are fetched at a time: the next ones may lie in another page.
	halfSize = 2
	// halfBits is how many bits they have.
	halfBits = 8 * halfSize
)

// reader reads instructions by a hart's addresses.
type reader struct {
	m *ram.RAM
	e api.Env
}

// envOf is by what a hart's addresses are translated.
func envOf(h api.Hart, root uint64) api.Env {
	return api.Env{Satp: h.Satp, Root: root, User: h.User, Sum: h.Sum, Mxr: h.Mxr}
}

// word is the instruction at an address, and how many bytes it has there.
func (r reader) word(va uint64) (w uint32, long int, ok bool) {
	low, ok := r.half(va)
	if !ok {
		return 0, 0, false
	}
	if inst.Size(low) == halfSize {
		return expanded(low)
	}
	high, ok := r.half(va + halfSize)
	if !ok {
		return 0, 0, false
	}
	return uint32(high)<<halfBits | uint32(low), 2 * halfSize, true
}

// half are two bytes of an instruction.
func (r reader) half(va uint64) (uint16, bool) {
	p := page.Translate(r.m, r.e, va, api.Fetch)
	if p.Fault != api.FaultNone {
		return 0, false
	}
	v, ok := r.m.Read(p.PA, halfSize)
	return uint16(v), ok
}

// expanded is what a compressed instruction stands for.
func expanded(low uint16) (w uint32, long int, ok bool) {
	w, ok = inst.Expand(low)
	if !ok {
		return 0, 0, false
	}
	return w, halfSize, true
}
