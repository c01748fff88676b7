package inst

import "citadel/api"

// draft is the word of an instruction, if there is one; if there is none, it is
// some word, which reads as another instruction or as none. All registers are
// written for all kinds, since what a row does not name is 0.
func draft(i api.Inst) word {
	return base(i) | register(i.Rd)<<7 | register(i.Rs1)<<15 | register(i.Rs2)<<20 | immediate(i.Kind, i.Imm)
}

func register(n int) word { return word(n) & 31 }

// base is what no register and no immediate says.
func base(i api.Inst) word {
	switch i.Kind {
	case api.KindLui:
		return opLui
	case api.KindAuipc:
		return opAuipc
	case api.KindJal:
		return opJal
	case api.KindJalr:
		return opJalr
	case api.KindBranch:
		return named(opBranch, word.branch, i)
	case api.KindLoad:
		return named(opLoad, word.load, i)
	case api.KindStore:
		return named(opStore, word.store, i)
	case api.KindAlu:
		return aluBase(i)
	case api.KindAluImm:
		return aluImmBase(i)
	case api.KindLr:
		return named(opAtomic|lr<<27, word.atomic, i)
	case api.KindSc:
		return named(opAtomic|sc<<27, word.atomic, i)
	case api.KindAmo:
		return named(opAtomic|amo(i.Fn), word.atomic, i)
	}
	return systemBase(i)
}

func systemBase(i api.Inst) word {
	switch i.Kind {
	case api.KindFence:
		return opFence
	case api.KindEcall:
		return ecall
	case api.KindEbreak:
		return ebreak
	case api.KindSret:
		return sret
	case api.KindWfi:
		return wfi
	case api.KindSfence:
		return opSystem | sfence<<25
	case api.KindCsr, api.KindCsrImm:
		return named(opSystem, word.system, i)
	}
	return 0
}

// named finds the f3 by which a word has an instruction's name. It asks what
// words are asked when they are read, so that no name is written down twice.
func named(start word, name func(word) (api.Inst, bool), i api.Inst) word {
	want := api.Inst{Kind: i.Kind, Fn: i.Fn, Size: i.Size, Signed: i.Signed}
	for f3 := range word(8) {
		w := start | f3<<12
		if got, ok := name(w); ok && got == want {
			return w
		}
	}
	return 0
}

func aluBase(i api.Inst) word {
	for _, f7 := range [3]word{basic, alternate, product} {
		if w := named(opAlu|f7<<25, word.alu, i); w != 0 {
			return w
		}
		if w := named(opAluW|f7<<25, word.aluW, i); w != 0 {
			return w
		}
	}
	return 0
}

func aluImmBase(i api.Inst) word {
	for _, f7 := range [2]word{basic, alternate} {
		if w := named(opImm|f7<<25, word.aluImm, i); w != 0 {
			return w
		}
		if w := named(opImmW|f7<<25, word.aluImmW, i); w != 0 {
			return w
		}
	}
	return 0
}

// amo is the f5, in its place, of an atomic that calculates.
func amo(fn int) word {
	for f5, n := range atomics {
		if n == fn {
			return word(f5) << 27
		}
	}
	return 0
}

// immediate is a number in its places. Shift amounts and the numbers of csrs
// stand where the low bits of an I stand.
func immediate(kind, n int) word {
	switch kind {
	case api.KindLui, api.KindAuipc:
		return put(n, 31, 12, 12)
	case api.KindJal:
		return put(n, 20, 20, 31) | put(n, 19, 12, 12) | put(n, 11, 11, 20) | put(n, 10, 1, 21)
	case api.KindBranch:
		return put(n, 12, 12, 31) | put(n, 11, 11, 7) | put(n, 10, 5, 25) | put(n, 4, 1, 8)
	case api.KindStore:
		return put(n, 11, 5, 25) | put(n, 4, 0, 7)
	}
	return put(n, 11, 0, 20)
}

// put is the bits [high:low] of a number, with the lowest of them at a place.
func put(n, high, low, at int) word {
	return word(word(n).bits(high, low)) << at
}
