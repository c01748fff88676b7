package word

import "citadel/api"

// operation chooses what Alu does; the operations of low halves stand apart, in
// halfOperation.
func operation(fn int) func(a, b word) word {
	switch fn {
	case api.Add:
		return word.add
	case api.Sub:
		return word.sub
	case api.Sll:
		return word.sll
	case api.Slt:
		return word.slt
	case api.Sltu:
		return word.sltu
	case api.Xor:
		return word.xor
	case api.Srl:
		return word.srl
	case api.Sra:
		return word.sra
	case api.Or:
		return word.or
	case api.And:
		return word.and
	case api.Mul:
		return word.mul
	case api.Mulh:
		return word.mulh
	case api.Mulhsu:
		return word.mulhsu
	case api.Mulhu:
		return word.mulhu
	case api.Div:
		return word.div
	case api.Divu:
		return word.divu
	case api.Rem:
		return word.rem
	case api.Remu:
		return word.remu
	}
	return halfOperation(fn)
}

// halfOperation chooses among the W operations. An fn that is none gets a method
// that answers what the document asks for it, so that nobody asks whether there
// is one; condition and atomic do likewise.
func halfOperation(fn int) func(a, b word) word {
	switch fn {
	case api.Addw:
		return word.addw
	case api.Subw:
		return word.subw
	case api.Sllw:
		return word.sllw
	case api.Srlw:
		return word.srlw
	case api.Sraw:
		return word.sraw
	case api.Mulw:
		return word.mulw
	case api.Divw:
		return word.divw
	case api.Divuw:
		return word.divuw
	case api.Remw:
		return word.remw
	case api.Remuw:
		return word.remuw
	}
	return word.zero
}

// condition chooses what Branch asks.
func condition(fn int) func(a, b word) bool {
	switch fn {
	case api.Beq:
		return word.equal
	case api.Bne:
		return word.unlike
	case api.Blt:
		return word.less
	case api.Bge:
		return word.notLess
	case api.Bltu:
		return word.below
	case api.Bgeu:
		return word.notBelow
	}
	return word.never
}

// atomic chooses what Amo stores.
func atomic(fn int) func(old, src word) word {
	switch fn {
	case api.AmoSwap:
		return word.swap
	case api.AmoAdd:
		return word.add
	case api.AmoXor:
		return word.xor
	case api.AmoAnd:
		return word.and
	case api.AmoOr:
		return word.or
	case api.AmoMin:
		return word.min
	case api.AmoMax:
		return word.max
	case api.AmoMinu:
		return word.minu
	case api.AmoMaxu:
		return word.maxu
	}
	return word.keep
}
