package hart

import (
	"citadel/api"
	"citadel/word"
)

// kind is what instructions of a kind do.
func (c *Core) kind(k int) func(*step) {
	c.once.Do(c.makeKinds)
	return c.kinds[k]
}

// makeKinds makes the table of all kinds that inst tells. When one of its methods is called, PC stands behind the
// instruction already, and registers are read as they were ahead of it.
func (c *Core) makeKinds() {
	c.kinds = map[int]func(*step){
		api.KindLui:    (*step).lui,
		api.KindAuipc:  (*step).auipc,
		api.KindJal:    (*step).jal,
		api.KindJalr:   (*step).jalr,
		api.KindBranch: (*step).branch,
		api.KindLoad:   (*step).load,
		api.KindStore:  (*step).store,
		api.KindAlu:    (*step).alu,
		api.KindAluImm: (*step).aluImm,
		api.KindFence:  (*step).fence,
		api.KindEcall:  (*step).ecall,
		api.KindEbreak: (*step).ebreak,
		api.KindCsr:    (*step).csr,
		api.KindCsrImm: (*step).csrImm,
		api.KindLr:     (*step).lr,
		api.KindSc:     (*step).sc,
		api.KindAmo:    (*step).amo,
		api.KindSret:   (*step).sret,
		api.KindWfi:    (*step).wfi,
		api.KindSfence: (*step).sfence,
	}
}

// x is the first register that the instruction reads.
func (s *step) x() uint64 { return s.was.X[s.inst.Rs1] }

// y is the second one.
func (s *step) y() uint64 { return s.was.X[s.inst.Rs2] }

// imm is the immediate as a word.
func (s *step) imm() uint64 { return uint64(s.inst.Imm) }

// set writes the register that the instruction writes.
func (s *step) set(v uint64) {
	if s.inst.Rd != 0 {
		s.h.X[s.inst.Rd] = v
	}
}

// jump goes on elsewhere, and keeps where it would have gone on.
func (s *step) jump(to uint64) {
	s.set(s.h.PC)
	s.h.PC = to &^ odd
}

func (s *step) lui() { s.set(s.imm()) }

func (s *step) auipc() { s.set(s.was.PC + s.imm()) }

func (s *step) jal() { s.jump(s.was.PC + s.imm()) }

func (s *step) jalr() { s.jump(s.x() + s.imm()) }

func (s *step) branch() {
	if word.Branch(s.inst.Fn, s.x(), s.y()) {
		s.h.PC = s.was.PC + s.imm()
	}
}

func (s *step) alu() { s.set(word.Alu(s.inst.Fn, s.x(), s.y())) }

func (s *step) aluImm() { s.set(word.Alu(s.inst.Fn, s.x(), s.imm())) }

// fence orders nothing: a step is over, for all who look, when the next one begins.
func (s *step) fence() {}
