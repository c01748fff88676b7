package mmio

import (
	"citadel/api"
	"citadel/word"
)

// load and store are the instructions that somebody else can do; an instruction of any other kind is neither.
type (
	load  api.Inst
	store api.Inst
)

// kindOf is an instruction as a load or as a store, else nil.
func kindOf(i api.Inst) any {
	switch i.Kind {
	case api.KindLoad:
		return load(i)
	case api.KindStore:
		return store(i)
	}
	return nil
}

// plan is the access that a kind of instruction of so many bytes is for a hart.
func plan(h api.Hart, kind any, long int) (api.Access, bool) {
	switch i := kind.(type) {
	case load:
		return api.Access{Size: i.Size, Signed: i.Signed, Reg: i.Rd, Len: long, VA: address(h, i.Rs1, i.Imm)}, true
	case store:
		value := word.Extend(h.X[i.Rs2], i.Size, false)
		return api.Access{Store: true, Size: i.Size, Len: long, VA: address(h, i.Rs1, i.Imm), Value: value}, true
	}
	return api.Access{}, false
}

// address is where an access goes: so far from where a register points.
func address(h api.Hart, reg, imm int) uint64 { return h.X[reg] + uint64(imm) }
