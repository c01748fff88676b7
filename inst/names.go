package inst

import "citadel/api"

// What f3 names, of loads, stores and atomics the bytes. 0 is no name: what is
// named here has no number 0.
var (
	conditions = [8]int{api.Beq, api.Bne, 0, 0, api.Blt, api.Bge, api.Bltu, api.Bgeu}
	loads      = [8]int{1, 2, 4, 8, 1, 2, 4, 0}
	stores     = [8]int{1, 2, 4, 8, 0, 0, 0, 0}
	widths     = [8]int{0, 0, 4, 8, 0, 0, 0, 0}
)

// What f3 names of the arithmetic, on words and on low halves; which of the
// three counts is told by f7.
var (
	basics      = [8]int{api.Add, api.Sll, api.Slt, api.Sltu, api.Xor, api.Srl, api.Or, api.And}
	alternates  = [8]int{api.Sub, 0, 0, 0, 0, api.Sra, 0, 0}
	products    = [8]int{api.Mul, api.Mulh, api.Mulhsu, api.Mulhu, api.Div, api.Divu, api.Rem, api.Remu}
	basicsW     = [8]int{api.Addw, api.Sllw, 0, 0, 0, api.Srlw, 0, 0}
	alternatesW = [8]int{api.Subw, 0, 0, 0, 0, api.Sraw, 0, 0}
	productsW   = [8]int{api.Mulw, 0, 0, 0, api.Divw, api.Divuw, api.Remw, api.Remuw}
)

// What f5 names of the atomics that calculate.
var atomics = [32]int{
	0: api.AmoAdd, 1: api.AmoSwap, 4: api.AmoXor, 8: api.AmoOr, 12: api.AmoAnd,
	16: api.AmoMin, 20: api.AmoMax, 24: api.AmoMinu, 28: api.AmoMaxu,
}

// The values of f7 and f5 that tell something, and the words without fields.
const (
	basic     = 0
	product   = 1
	alternate = 0x20
	sfence    = 9

	lr = 2
	sc = 3

	ecall  = 0x00000073
	ebreak = 0x00100073
	sret   = 0x10200073
	wfi    = 0x10500073
)

// only answers an instruction if it is one: what names it may be no name.
func only(i api.Inst, name int) (api.Inst, bool) {
	if name == 0 {
		return api.Inst{}, false
	}
	return i, true
}

func (w word) lui() (api.Inst, bool) { return api.Inst{Kind: api.KindLui}, true }

func (w word) auipc() (api.Inst, bool) { return api.Inst{Kind: api.KindAuipc}, true }

func (w word) jal() (api.Inst, bool) { return api.Inst{Kind: api.KindJal}, true }

func (w word) jalr() (api.Inst, bool) {
	if w.f3() != 0 {
		return api.Inst{}, false
	}
	return api.Inst{Kind: api.KindJalr}, true
}

func (w word) branch() (api.Inst, bool) {
	fn := conditions[w.f3()]
	return only(api.Inst{Kind: api.KindBranch, Fn: fn}, fn)
}

func (w word) load() (api.Inst, bool) {
	size := loads[w.f3()]
	return only(api.Inst{Kind: api.KindLoad, Size: size, Signed: w.f3() < 4}, size)
}

func (w word) store() (api.Inst, bool) {
	size := stores[w.f3()]
	return only(api.Inst{Kind: api.KindStore, Size: size}, size)
}

// chosen is the one of three names that f7 tells.
func chosen(f7, plain, other, third int) int {
	switch f7 {
	case basic:
		return plain
	case alternate:
		return other
	case product:
		return third
	}
	return 0
}

func (w word) aluImm() (api.Inst, bool) {
	fn := basics[w.f3()]
	if w.shifts() {
		// The lowest bit of f7 is the highest of the shift amount, and tells nothing.
		fn = chosen(w.f6()<<1, basics[w.f3()], alternates[w.f3()], 0)
	}
	return only(api.Inst{Kind: api.KindAluImm, Fn: fn}, fn)
}

func (w word) aluImmW() (api.Inst, bool) {
	fn := basicsW[w.f3()]
	if w.shifts() {
		fn = chosen(w.f7(), basicsW[w.f3()], alternatesW[w.f3()], 0)
	}
	return only(api.Inst{Kind: api.KindAluImm, Fn: fn}, fn)
}

func (w word) alu() (api.Inst, bool) {
	fn := chosen(w.f7(), basics[w.f3()], alternates[w.f3()], products[w.f3()])
	return only(api.Inst{Kind: api.KindAlu, Fn: fn}, fn)
}

func (w word) aluW() (api.Inst, bool) {
	fn := chosen(w.f7(), basicsW[w.f3()], alternatesW[w.f3()], productsW[w.f3()])
	return only(api.Inst{Kind: api.KindAlu, Fn: fn}, fn)
}

func (w word) fence() (api.Inst, bool) {
	if w.f3() > 1 {
		return api.Inst{}, false
	}
	return api.Inst{Kind: api.KindFence}, true
}

func (w word) system() (api.Inst, bool) {
	f3 := w.f3()
	switch {
	case f3 == 0:
		return w.privileged()
	case f3 < 4:
		return api.Inst{Kind: api.KindCsr, Fn: f3}, true
	case f3 > 4:
		return api.Inst{Kind: api.KindCsrImm, Fn: f3 - 4}, true
	}
	return api.Inst{}, false
}

func (w word) privileged() (api.Inst, bool) {
	switch w {
	case ecall:
		return api.Inst{Kind: api.KindEcall}, true
	case ebreak:
		return api.Inst{Kind: api.KindEbreak}, true
	case sret:
		return api.Inst{Kind: api.KindSret}, true
	case wfi:
		return api.Inst{Kind: api.KindWfi}, true
	}
	if w.f7() == sfence && w.rd() == 0 {
		return api.Inst{Kind: api.KindSfence}, true
	}
	return api.Inst{}, false
}

func (w word) atomic() (api.Inst, bool) {
	size := widths[w.f3()]
	fn := atomics[w.f5()]
	switch {
	case fn != 0:
		return only(api.Inst{Kind: api.KindAmo, Fn: fn, Size: size}, size)
	case w.f5() == lr && w.rs2() == 0:
		return only(api.Inst{Kind: api.KindLr, Size: size}, size)
	case w.f5() == sc:
		return only(api.Inst{Kind: api.KindSc, Size: size}, size)
	}
	return api.Inst{}, false
}
