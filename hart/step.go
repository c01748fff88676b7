package hart

import (
	"citadel/api"
	"citadel/inst"
)

// step is one step of a hart under way.
type step struct {
	core *Core
	now  uint64
	was  api.Hart // ahead of the step
	h    api.Hart // behind it, as far as it has come
	inst api.Inst
	bits uint64 // the instruction as it stands in the memory: of a compressed one 16

	event  api.Event
	at     uint64 // where a step that has Wrote stores
	stored uint64
}

// end is what a step came to ahead of its instruction's end: nothing of what the instruction did so far stays.
func (s *step) end(h api.Hart, e api.Event) {
	s.h, s.event = h, e
}

// trap ends the step by a trap.
func (s *step) trap(cause, value uint64) {
	s.end(Trap(s.was, cause, value), api.Event{Kind: api.Trapped})
}

// illegal ends the step at an instruction that is none, or none for this hart.
func (s *step) illegal() {
	s.trap(causeIllegal, s.bits)
}

// commit stores what the step has to store. A step writes no memory but here, so that Peek can do all but this.
func (s *step) commit() {
	if s.event.Wrote {
		s.core.m.Write(s.at, s.inst.Size, s.stored)
	}
}

// halfSize is how many bytes of an instruction are fetched at a time.
const halfSize = 2

// fetch reads the instruction at PC, and sets PC behind it; false: the step has ended.
func (s *step) fetch() bool {
	if !s.fetchBits() {
		return false
	}
	i, ok := decode(s.bits)
	if !ok {
		s.illegal()
		return false
	}
	s.inst = i
	s.h.PC += uint64(inst.Size(uint16(s.bits)))
	return true
}

// fetchBits reads the bits at PC, half by half, since the halves may lie in two pages; false: the step has ended.
func (s *step) fetchBits() bool {
	low, ok := s.fetchHalf(s.was.PC)
	if !ok {
		return false
	}
	s.bits = low
	if inst.Size(uint16(low)) == halfSize {
		return true
	}
	high, ok := s.fetchHalf(s.was.PC + halfSize)
	s.bits |= high << (8 * halfSize)
	return ok
}

// fetchHalf reads two bytes of an instruction; false: the step has ended.
func (s *step) fetchHalf(addr uint64) (uint64, bool) {
	p, ok := s.reach(addr, api.Fetch, halfSize)
	if !ok {
		return 0, false
	}
	return s.core.m.Read(p.PA, halfSize)
}

// decode is the instruction that some bits are, whether they are 16 or 32.
func decode(bits uint64) (api.Inst, bool) {
	if inst.Size(uint16(bits)) != halfSize {
		return inst.Decode(uint32(bits))
	}
	w, ok := inst.Expand(uint16(bits))
	if !ok {
		return api.Inst{}, false
	}
	return inst.Decode(w)
}
