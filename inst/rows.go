package inst

import "citadel/api"

// The opcodes.
const (
	opLoad   = 0x03
	opFence  = 0x0f
	opImm    = 0x13
	opAuipc  = 0x17
	opImmW   = 0x1b
	opStore  = 0x23
	opAtomic = 0x2f
	opAlu    = 0x33
	opLui    = 0x37
	opAluW   = 0x3b
	opBranch = 0x63
	opJalr   = 0x67
	opJal    = 0x6f
	opSystem = 0x73
)

// calculates is the bit by which the opcodes fall into two halves.
const calculates = 0x10

// row is how the words of an opcode are read: name tells the kind, and what else
// is not a field of the word; it answers false for a word of no row.
type row struct {
	name              func(word) (api.Inst, bool)
	rd, rs1, rs2, imm func(word) int
}

// rowOf is an opcode's row. There are two maps because one of at most eight keys
// is made in place, with nothing left to collect, and one is made for each word
// that is read.
func rowOf(op int) (row, bool) {
	if op&calculates != 0 {
		return calculating(op)
	}
	return moving(op)
}

// calculating has the rows of the opcodes that leave memory and the way alone.
func calculating(op int) (row, bool) {
	rows := map[int]row{
		opLui:    {word.lui, word.rd, word.none, word.none, word.immU},
		opAuipc:  {word.auipc, word.rd, word.none, word.none, word.immU},
		opImm:    {word.aluImm, word.rd, word.rs1, word.none, word.operand},
		opImmW:   {word.aluImmW, word.rd, word.rs1, word.none, word.operandW},
		opAlu:    {word.alu, word.rd, word.rs1, word.rs2, word.none},
		opAluW:   {word.aluW, word.rd, word.rs1, word.rs2, word.none},
		opSystem: {word.system, word.rd, word.rs1, word.space, word.csr},
	}
	r, ok := rows[op]
	return r, ok
}

// moving has the rows of the opcodes that go to memory or elsewhere.
func moving(op int) (row, bool) {
	rows := map[int]row{
		opJal:    {word.jal, word.rd, word.none, word.none, word.immJ},
		opJalr:   {word.jalr, word.rd, word.rs1, word.none, word.immI},
		opBranch: {word.branch, word.none, word.rs1, word.rs2, word.immB},
		opLoad:   {word.load, word.rd, word.rs1, word.none, word.immI},
		opStore:  {word.store, word.none, word.rs1, word.rs2, word.immS},
		opFence:  {word.fence, word.none, word.none, word.none, word.none},
		opAtomic: {word.atomic, word.rd, word.rs1, word.rs2, word.none},
	}
	r, ok := rows[op]
	return r, ok
}

// read is the instruction that a word stands for.
func (w word) read() (api.Inst, bool) {
	r, ok := rowOf(w.op())
	if !ok {
		return api.Inst{}, false
	}
	i, ok := r.name(w)
	if !ok {
		return api.Inst{}, false
	}
	i.Rd, i.Rs1, i.Rs2, i.Imm = r.rd(w), r.rs1(w), r.rs2(w), r.imm(w)
	return i, true
}
