package hart

import (
	"citadel/api"
	"citadel/word"
)

// data is reach for what an instruction loads or stores, which begins at a multiple of its size.
func (s *step) data(addr uint64, access int) (api.Place, bool) {
	if addr%uint64(s.inst.Size) != 0 {
		s.trap(oddCause(access), addr)
		return api.Place{}, false
	}
	return s.reach(addr, access, s.inst.Size)
}

// oddCause is the cause of a trap where the address is no multiple of the size.
func oddCause(access int) uint64 {
	if access == api.Load {
		return causeOddLoad
	}
	return causeOddStore
}

// number is the number at a place.
func (s *step) number(p api.Place) uint64 {
	v, _ := s.core.m.Read(p.PA, s.inst.Size)
	return v
}

// extended is a number of the instruction's size with its sign.
func (s *step) extended(v uint64) uint64 { return word.Extend(v, s.inst.Size, true) }

// keep keeps what is to be stored at a place, and tells of it.
func (s *step) keep(p api.Place, v uint64) {
	s.event.Wrote, s.event.GPA = true, p.GPA
	s.at, s.stored = p.PA, v
}

func (s *step) load() {
	if p, ok := s.data(s.x()+s.imm(), api.Load); ok {
		s.set(word.Extend(s.number(p), s.inst.Size, s.inst.Signed))
	}
}

func (s *step) store() {
	if p, ok := s.data(s.x()+s.imm(), api.Store); ok {
		s.keep(p, s.y())
	}
}

func (s *step) lr() {
	if p, ok := s.data(s.x(), api.Load); ok {
		s.set(s.extended(s.number(p)))
		s.h.Reserved, s.h.Reservation = true, p.GPA
	}
}

func (s *step) sc() {
	p, ok := s.data(s.x(), api.Store)
	if !ok {
		return
	}
	s.h.Reserved = false
	if !s.was.Reserved || s.was.Reservation != p.GPA {
		s.set(1)
		return
	}
	s.set(0)
	s.keep(p, s.y())
}

func (s *step) amo() {
	if p, ok := s.data(s.x(), api.Store); ok {
		old := s.number(p)
		s.set(s.extended(old))
		s.keep(p, word.Amo(s.inst.Fn, s.inst.Size, old, s.y()))
	}
}
