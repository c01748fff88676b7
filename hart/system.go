package hart

import "citadel/api"

// What an instruction does to a CSR, by its Fn.
const (
	csrSwap  = 1
	csrSet   = 2
	csrClear = 3
)

func (s *step) csr() { s.turnCsr(s.x()) }

func (s *step) csrImm() { s.turnCsr(uint64(s.inst.Rs1)) }

// turnCsr turns a CSR by v. Where Rs1 is 0 bits are neither set nor cleared: it is only read, which of time is no fault.
func (s *step) turnCsr(v uint64) {
	old, ok := Read(s.was, s.inst.Imm, s.now)
	if !ok {
		s.illegal()
		return
	}
	s.set(old)
	if s.inst.Fn != csrSwap && s.inst.Rs1 == 0 {
		return
	}
	h, ok := Write(s.h, s.inst.Imm, turned(s.inst.Fn, old, v))
	if !ok {
		s.illegal()
		return
	}
	s.h = h
}

// turned is what is written into a CSR in the old value's place.
func turned(fn int, old, v uint64) uint64 {
	switch fn {
	case csrSet:
		return old | v
	case csrClear:
		return old &^ v
	}
	return v
}

func (s *step) ecall() {
	if s.was.User {
		s.trap(causeCall, 0)
		return
	}
	s.end(s.was, api.Event{Kind: api.ExitCall})
}

func (s *step) ebreak() { s.trap(causeBreak, s.was.PC) }

// supervises tells whether the hart runs as supervisor; if not, the instruction is not for it.
func (s *step) supervises() bool {
	if s.was.User {
		s.illegal()
	}
	return !s.was.User
}

func (s *step) sret() {
	if !s.supervises() {
		return
	}
	s.h.PC = s.was.Sepc
	s.h.User, s.h.On = !s.was.Spp, s.was.Spie
	s.h.Spie, s.h.Spp = true, false
}

func (s *step) wfi() {
	if s.supervises() {
		s.event.Kind = api.ExitWait
	}
}

// sfence has nothing to forget: of the first stage nothing is remembered, and the second is not the hart's.
func (s *step) sfence() { s.supervises() }
