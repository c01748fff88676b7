package word

import "math/bits"

// word has the operations as its methods, so that they can be chosen as method
// expressions.
type word uint64

const allOnes = ^word(0)

// half is the low half, with 0 above it.
func (a word) half() word { return word(uint32(a)) }

// extended is the low half, with its sign above it.
func (a word) extended() word { return word(int32(a)) }

// Conditions.

func (a word) equal(b word) bool { return a == b }

func (a word) unlike(b word) bool { return a != b }

func (a word) less(b word) bool { return int64(a) < int64(b) }

func (a word) notLess(b word) bool { return !a.less(b) }

func (a word) below(b word) bool { return a < b }

func (a word) notBelow(b word) bool { return !a.below(b) }

func (a word) never(b word) bool { return false }

// Operations of words.

func (a word) add(b word) word { return a + b }

func (a word) sub(b word) word { return a - b }

func (a word) xor(b word) word { return a ^ b }

func (a word) or(b word) word { return a | b }

func (a word) and(b word) word { return a & b }

func (a word) sll(b word) word { return a << (b & 63) }

func (a word) srl(b word) word { return a >> (b & 63) }

func (a word) sra(b word) word { return word(int64(a) >> (b & 63)) }

func (a word) slt(b word) word { return oneIf(a.less(b)) }

func (a word) sltu(b word) word { return oneIf(a.below(b)) }

func (a word) mul(b word) word { return a * b }

func (a word) mulhu(b word) word {
	high, _ := bits.Mul64(uint64(a), uint64(b))
	return word(high)
}

// mulhsu takes b once off the high word where a is negative: without its sign a
// counts for 2^64 too much.
func (a word) mulhsu(b word) word { return a.mulhu(b) - a.signMask()&b }

func (a word) mulh(b word) word { return a.mulhsu(b) - b.signMask()&a }

// div needs no case for -2^63 by -1: the language's own quotient wraps round to
// -2^63 there, and its rest is 0.
func (a word) div(b word) word {
	if b == 0 {
		return allOnes
	}
	return word(int64(a) / int64(b))
}

func (a word) rem(b word) word {
	if b == 0 {
		return a
	}
	return word(int64(a) % int64(b))
}

func (a word) divu(b word) word {
	if b == 0 {
		return allOnes
	}
	return a / b
}

func (a word) remu(b word) word {
	if b == 0 {
		return a
	}
	return a % b
}

func (a word) zero(b word) word { return 0 }

// Operations of low halves: those of the words, of operands whose high halves
// say nothing more, cut to the low half again.

func (a word) addw(b word) word { return a.add(b).extended() }

func (a word) subw(b word) word { return a.sub(b).extended() }

func (a word) mulw(b word) word { return a.mul(b).extended() }

func (a word) sllw(b word) word { return a.sll(b & 31).extended() }

func (a word) srlw(b word) word { return a.half().srl(b & 31).extended() }

func (a word) sraw(b word) word { return a.extended().sra(b & 31) }

// divw comes to 2^31 for -2^31 by -1, and extending makes -2^31 of it.
func (a word) divw(b word) word { return a.extended().div(b.extended()).extended() }

func (a word) remw(b word) word { return a.extended().rem(b.extended()) }

func (a word) divuw(b word) word { return a.half().divu(b.half()).extended() }

func (a word) remuw(b word) word { return a.half().remu(b.half()).extended() }

// What atomics store, beside the operations above.

func (a word) swap(b word) word { return b }

func (a word) keep(b word) word { return a }

func (a word) min(b word) word { return choose(a.less(b), a, b) }

func (a word) max(b word) word { return choose(a.less(b), b, a) }

func (a word) minu(b word) word { return choose(a.below(b), a, b) }

func (a word) maxu(b word) word { return choose(a.below(b), b, a) }

// signMask is all ones for a negative word, else 0.
func (a word) signMask() word { return a.sra(63) }

func oneIf(holds bool) word { return choose(holds, 1, 0) }

func choose(first bool, a, b word) word {
	if first {
		return a
	}
	return b
}
