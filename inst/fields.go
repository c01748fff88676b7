package inst

// word is an instruction's 32 bits; its fields are its methods.
type word uint32

// bits is the field [high:low].
func (w word) bits(high, low int) int {
	return int(w<<(31-high)) >> (31 - high + low)
}

// signed is the field [31:low], whose highest bit is its sign.
func (w word) signed(low int) int {
	return int(int32(w) >> low)
}

func (w word) op() int  { return w.bits(6, 0) }
func (w word) f3() int  { return w.bits(14, 12) }
func (w word) f5() int  { return w.bits(31, 27) }
func (w word) f6() int  { return w.bits(31, 26) }
func (w word) f7() int  { return w.bits(31, 25) }
func (w word) rd() int  { return w.bits(11, 7) }
func (w word) rs1() int { return w.bits(19, 15) }
func (w word) rs2() int { return w.bits(24, 20) }

// none is read where a row has no such field.
func (w word) none() int { return 0 }

func (w word) immI() int { return w.signed(20) }

func (w word) immS() int { return w.signed(25)<<5 | w.bits(11, 7) }

func (w word) immB() int {
	return w.signed(31)<<12 | w.bits(7, 7)<<11 | w.bits(30, 25)<<5 | w.bits(11, 8)<<1
}

func (w word) immU() int { return w.signed(12) << 12 }

func (w word) immJ() int {
	return w.signed(31)<<20 | w.bits(19, 12)<<12 | w.bits(20, 20)<<11 | w.bits(30, 21)<<1
}

// shifts tells whether an operation with an immediate is a shift.
func (w word) shifts() bool {
	return w.f3() == 1 || w.f3() == 5
}

// operand is the immediate of an operation on words: of a shift its 6 bits.
func (w word) operand() int {
	if w.shifts() {
		return w.bits(25, 20)
	}
	return w.immI()
}

// operandW is the immediate of an operation on low halves: of a shift its 5 bits.
func (w word) operandW() int {
	if w.shifts() {
		return w.bits(24, 20)
	}
	return w.immI()
}

// csr is the number of the register that an instruction of the system asks for;
// those with f3 0 have other things in its place.
func (w word) csr() int {
	if w.f3() == 0 {
		return 0
	}
	return w.bits(31, 20)
}

// space is rs2 of an sfence, the only instruction of the system that has one.
func (w word) space() int {
	if w.f3() == 0 && w.f7() == sfence {
		return w.rs2()
	}
	return 0
}
