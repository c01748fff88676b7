package inst

import "citadel/api"

// The instructions that compressed forms stand for, by their shapes.

func addi(rd, rs1, n int) api.Inst {
	return api.Inst{Kind: api.KindAluImm, Fn: api.Add, Rd: rd, Rs1: rs1, Imm: n}
}

func aluImm(fn, rd, n int) api.Inst {
	return api.Inst{Kind: api.KindAluImm, Fn: fn, Rd: rd, Rs1: rd, Imm: n}
}

func alu(fn, rd, rs1, rs2 int) api.Inst {
	return api.Inst{Kind: api.KindAlu, Fn: fn, Rd: rd, Rs1: rs1, Rs2: rs2}
}

func load(size, rd, rs1, n int) api.Inst {
	return api.Inst{Kind: api.KindLoad, Size: size, Signed: true, Rd: rd, Rs1: rs1, Imm: n}
}

func store(size, rs2, rs1, n int) api.Inst {
	return api.Inst{Kind: api.KindStore, Size: size, Rs1: rs1, Rs2: rs2, Imm: n}
}

func branch(fn, rs1, n int) api.Inst {
	return api.Inst{Kind: api.KindBranch, Fn: fn, Rs1: rs1, Imm: n}
}

func jalr(rd, rs1 int) api.Inst {
	return api.Inst{Kind: api.KindJalr, Rd: rd, Rs1: rs1}
}

// first reads those with [1:0] 0.
func (c half) first() (api.Inst, bool) {
	switch c.f3() {
	case 0:
		return only(addi(c.shortRs2(), sp, c.immStack()), c.immStack())
	case 2:
		return load(4, c.shortRs2(), c.shortRs1(), c.immWord()), true
	case 3:
		return load(8, c.shortRs2(), c.shortRs1(), c.immDouble()), true
	case 6:
		return store(4, c.shortRs2(), c.shortRs1(), c.immWord()), true
	case 7:
		return store(8, c.shortRs2(), c.shortRs1(), c.immDouble()), true
	}
	return api.Inst{}, false
}

// second reads those with [1:0] 1.
func (c half) second() (api.Inst, bool) {
	switch c.f3() {
	case 0:
		return addi(c.rd(), c.rd(), c.small()), true
	case 1:
		return only(aluImm(api.Addw, c.rd(), c.small()), c.rd())
	case 2:
		return addi(c.rd(), zero, c.small()), true
	case 3:
		return c.upper()
	case 4:
		return c.calculate()
	case 5:
		return api.Inst{Kind: api.KindJal, Rd: zero, Imm: c.immJump()}, true
	case 6:
		return branch(api.Beq, c.shortRs1(), c.immBranch()), true
	}
	return branch(api.Bne, c.shortRs1(), c.immBranch()), true
}

// upper reads those that load upper bits; in the place of the stack pointer's
// stands the one that moves it.
func (c half) upper() (api.Inst, bool) {
	if c.rd() == sp {
		return only(addi(sp, sp, c.immMove()), c.immMove())
	}
	n := c.small() << 12
	return only(api.Inst{Kind: api.KindLui, Rd: c.rd(), Imm: n}, n)
}

// calculate reads the arithmetic on a short register.
func (c half) calculate() (api.Inst, bool) {
	rd := c.shortRs1()
	switch c.bits(11, 10) {
	case 0:
		return aluImm(api.Srl, rd, c.amount()), true
	case 1:
		return aluImm(api.Sra, rd, c.amount()), true
	case 2:
		return aluImm(api.And, rd, c.small()), true
	}
	fn := c.operation()
	return only(alu(fn, rd, rd, c.shortRs2()), fn)
}

// operation is told by [12] and [6:5].
func (c half) operation() int {
	switch c.bits(12, 12)<<2 | c.bits(6, 5) {
	case 0:
		return api.Sub
	case 1:
		return api.Xor
	case 2:
		return api.Or
	case 3:
		return api.And
	case 4:
		return api.Subw
	case 5:
		return api.Addw
	}
	return 0
}

// third reads those with [1:0] 2.
func (c half) third() (api.Inst, bool) {
	switch c.f3() {
	case 0:
		return aluImm(api.Sll, c.rd(), c.amount()), true
	case 2:
		return only(load(4, c.rd(), sp, c.immPopWord()), c.rd())
	case 3:
		return only(load(8, c.rd(), sp, c.immPopDouble()), c.rd())
	case 4:
		return c.move()
	case 6:
		return store(4, c.rs2(), sp, c.immPushWord()), true
	case 7:
		return store(8, c.rs2(), sp, c.immPushDouble()), true
	}
	return api.Inst{}, false
}

// move reads jumps to a register, ebreak, moves and sums.
func (c half) move() (api.Inst, bool) {
	rd, rs2, upper := c.rd(), c.rs2(), c.bits(12, 12) == 1
	switch {
	case upper && rd == 0 && rs2 == 0:
		return api.Inst{Kind: api.KindEbreak}, true
	case upper && rs2 == 0:
		return jalr(link, rd), true
	case upper:
		return alu(api.Add, rd, rd, rs2), true
	case rs2 == 0:
		return only(jalr(zero, rd), rd)
	}
	return alu(api.Add, rd, zero, rs2), true
}
