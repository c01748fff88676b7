package word_test

import (
	"math/big"
	"testing"

	"citadel/api"
	"citadel/word"
)

type aluCase struct {
	fn         int
	a, b, want uint64
}

func checkAlu(t *testing.T, cases []aluCase) {
	t.Helper()
	for i, x := range cases {
		if got := word.Alu(x.fn, x.a, x.b); got != x.want {
			t.Errorf("%d: Alu(%d, %#x, %#x) = %#x, want %#x", i, x.fn, x.a, x.b, got, x.want)
		}
	}
}

// P1.1: what the chapter's examples say.
func TestAluExamples(t *testing.T) {
	checkAlu(t, []aluCase{
		{api.Sra, 1 << 63, 63, ones},
		{api.Mulh, ones, 2, ones},
		{api.Div, 7, 0, ones},
		{api.Rem, 7, 0, 7},
		{api.Divw, 1 << 31, ones, least4},
		{api.Addw, 1<<31 - 1, 1, least4},
	})
}

// P1.1: sums and bits.
func TestAluSumsAndBits(t *testing.T) {
	checkAlu(t, []aluCase{
		{api.Add, 2, 3, 5}, {api.Add, ones, 1, 0}, {api.Add, least, least, 0},
		{api.Sub, 5, 3, 2}, {api.Sub, 0, 1, ones}, {api.Sub, least, 1, least - 1},
		{api.Xor, 12, 10, 6}, {api.Or, 12, 10, 14}, {api.And, 12, 10, 8},
		{api.Xor, ones, least, least - 1}, {api.Or, 0, least, least}, {api.And, ones, least, least},
	})
}

// P1.1: only the low 6 (of W operations: 5) bits of b shift.
func TestAluShifts(t *testing.T) {
	checkAlu(t, []aluCase{
		{api.Sll, 3, 0, 3}, {api.Sll, 3, 63, least}, {api.Sll, 3, 64, 3}, {api.Sll, 3, 65, 6}, {api.Sll, 1, ones, least}, {api.Sll, 5, 1 << 63, 5},
		{api.Srl, ones, 0, ones}, {api.Srl, ones, 63, 1}, {api.Srl, 8, 64, 8}, {api.Srl, 8, 66, 2}, {api.Srl, least, ones, 1}, {api.Srl, 8, high, 8},
		{api.Sra, least, 0, least}, {api.Sra, least, 1, 3 << 62}, {api.Sra, least, 64, least}, {api.Sra, least - 1, 62, 1}, {api.Sra, least, ones, ones}, {api.Sra, 8, high | 3, 1},
		{api.Sllw, 1, 31, least4}, {api.Sllw, 1, 32, 1}, {api.Sllw, 3, 31, least4}, {api.Sllw, high | 1, 33, 2}, {api.Sllw, 1, ones, least4}, {api.Sllw, 1 << 30, 2, 0},
		{api.Srlw, 1 << 31, 0, least4}, {api.Srlw, 1 << 31, 31, 1}, {api.Srlw, 1 << 31, 32, least4}, {api.Srlw, high | 8, 34, 2}, {api.Srlw, ones, 63, 1}, {api.Srlw, high, 1, 0},
		{api.Sraw, 1 << 31, 0, least4}, {api.Sraw, 1 << 31, 31, ones}, {api.Sraw, 1 << 31, 32, least4}, {api.Sraw, least | 8, 1, 4}, {api.Sraw, 1<<31 - 1, 30, 1}, {api.Sraw, high | 1<<31, 63, ones},
	})
}

// P1.1: signs at the highest bit.
func TestAluComparisons(t *testing.T) {
	checkAlu(t, []aluCase{
		{api.Slt, 1, 2, 1}, {api.Slt, 2, 1, 0}, {api.Slt, 2, 2, 0}, {api.Slt, least, 0, 1}, {api.Slt, 0, least, 0}, {api.Slt, least, least - 1, 1}, {api.Slt, ones, ones - 1, 0}, {api.Slt, 1 << 31, 1, 0},
		{api.Sltu, 1, 2, 1}, {api.Sltu, 2, 1, 0}, {api.Sltu, 2, 2, 0}, {api.Sltu, least, 0, 0}, {api.Sltu, 0, least, 1}, {api.Sltu, least, least - 1, 0}, {api.Sltu, ones, ones - 1, 0}, {api.Sltu, ones - 1, ones, 1},
	})
}

// P1.1: both words of products.
func TestAluProducts(t *testing.T) {
	checkAlu(t, []aluCase{
		{api.Mul, 6, 7, 42}, {api.Mul, ones, ones, 1}, {api.Mul, least, 2, 0}, {api.Mul, 1 << 32, 1 << 32, 0}, {api.Mul, ones, 5, ones - 4},
		{api.Mulh, 6, 7, 0}, {api.Mulh, ones, ones, 0}, {api.Mulh, ones, 1, ones}, {api.Mulh, 1, ones, ones}, {api.Mulh, least, least, 1 << 62}, {api.Mulh, least, ones, 0}, {api.Mulh, least, 1, ones}, {api.Mulh, least - 1, least - 1, 1<<62 - 1},
		{api.Mulhsu, 6, 7, 0}, {api.Mulhsu, ones, ones, ones}, {api.Mulhsu, ones, 1, ones}, {api.Mulhsu, 1, ones, 0}, {api.Mulhsu, least, least, ones - (1<<62 - 1)}, {api.Mulhsu, least - 1, ones, least - 2}, {api.Mulhsu, 2, least, 1},
		{api.Mulhu, 6, 7, 0}, {api.Mulhu, ones, ones, ones - 1}, {api.Mulhu, ones, 1, 0}, {api.Mulhu, ones, 2, 1}, {api.Mulhu, least, least, 1 << 62}, {api.Mulhu, least, 2, 1},
		{api.Mulw, 6, 7, 42}, {api.Mulw, high | 6, high | 7, 42}, {api.Mulw, 1 << 16, 1 << 16, 0}, {api.Mulw, 1 << 16, 1 << 15, least4}, {api.Mulw, 1<<32 - 1, 1<<32 - 1, 1}, {api.Mulw, 1<<32 - 1, 1, ones},
	})
}

// P1.1: quotients go towards 0, the rest has a's sign; by 0; -2^63 by -1.
func TestAluQuotients(t *testing.T) {
	minus := func(n uint64) uint64 { return -n }
	checkAlu(t, []aluCase{
		{api.Div, 7, 2, 3}, {api.Div, minus(7), 2, minus(3)}, {api.Div, 7, minus(2), minus(3)}, {api.Div, minus(7), minus(2), 3}, {api.Div, 1, 2, 0}, {api.Div, minus(1), 2, 0},
		{api.Rem, 7, 2, 1}, {api.Rem, minus(7), 2, minus(1)}, {api.Rem, 7, minus(2), 1}, {api.Rem, minus(7), minus(2), minus(1)}, {api.Rem, minus(6), 2, 0},
		{api.Div, 0, 0, ones}, {api.Div, least, 0, ones}, {api.Div, ones, 0, ones}, {api.Rem, 0, 0, 0}, {api.Rem, least, 0, least}, {api.Rem, ones, 0, ones},
		{api.Div, least, ones, least}, {api.Rem, least, ones, 0}, {api.Div, least, 1, least}, {api.Div, least + 1, ones, least - 1}, {api.Rem, 5, ones, 0},
		{api.Divu, 7, 2, 3}, {api.Divu, minus(7), 2, least - 4}, {api.Divu, 7, ones, 0}, {api.Divu, least, ones, 0}, {api.Divu, 0, 0, ones}, {api.Divu, least, 0, ones},
		{api.Remu, 7, 2, 1}, {api.Remu, minus(7), 2, 1}, {api.Remu, 7, ones, 7}, {api.Remu, least, ones, least}, {api.Remu, 0, 0, 0}, {api.Remu, least, 0, least},
	})
}

// P1.1: the same of low halves; what stands above them does not count.
func TestAluHalfQuotients(t *testing.T) {
	minus := func(n uint64) uint64 { return -n }
	top := uint64(1) << 31
	checkAlu(t, []aluCase{
		{api.Divw, minus(7), 2, minus(3)}, {api.Divw, 1<<32 - 7, 2, minus(3)}, {api.Divw, high | 7, high | 2, 3}, {api.Divw, 7, 1<<32 - 2, minus(3)},
		{api.Remw, minus(7), 2, minus(1)}, {api.Remw, 1<<32 - 7, 2, minus(1)}, {api.Remw, high | 7, high | 2, 1}, {api.Remw, 7, 1<<32 - 2, 1},
		{api.Divw, 7, 0, ones}, {api.Divw, 7, high, ones}, {api.Divw, high | top, 0, ones}, {api.Remw, high | 7, 0, 7}, {api.Remw, 7, high, 7}, {api.Remw, high | top, high, least4}, {api.Remw, 1<<32 - 1, 0, ones},
		{api.Divw, top, 1<<32 - 1, least4}, {api.Divw, high | top, ones, least4}, {api.Remw, top, 1<<32 - 1, 0}, {api.Remw, high | top, ones, 0}, {api.Divw, top, 1, least4},
		{api.Divuw, 7, 2, 3}, {api.Divuw, 1<<32 - 7, 2, 1<<31 - 4}, {api.Divuw, high | 7, high | 2, 3}, {api.Divuw, 1<<32 - 1, 1, ones}, {api.Divuw, ones, ones, 1}, {api.Divuw, top, ones, 0},
		{api.Remuw, 7, 2, 1}, {api.Remuw, 1<<32 - 7, 2, 1}, {api.Remuw, high | 7, high | 2, 1}, {api.Remuw, 1<<32 - 2, 1<<32 - 1, ones - 1}, {api.Remuw, ones, ones, 0}, {api.Remuw, top, ones, least4},
		{api.Divuw, 7, 0, ones}, {api.Divuw, 7, high, ones}, {api.Remuw, high | 7, 0, 7}, {api.Remuw, top, high, least4}, {api.Remuw, ones, 0, ones},
	})
}

// P1.1: sums of low halves are modulo 2^32, and extended.
func TestAluHalfSums(t *testing.T) {
	checkAlu(t, []aluCase{
		{api.Addw, 2, 3, 5}, {api.Addw, high | 2, high | 3, 5}, {api.Addw, 1<<32 - 1, 1, 0}, {api.Addw, 1 << 31, 0, least4}, {api.Addw, 1 << 31, 1 << 31, 0},
		{api.Subw, 5, 3, 2}, {api.Subw, high | 5, 3, 2}, {api.Subw, 0, 1, ones}, {api.Subw, 1 << 31, 1, 1<<31 - 1}, {api.Subw, 0, 1 << 31, least4}, {api.Subw, 1, high, 1},
	})
}

// P1.1: 0 for an fn that is not in the table.
func TestAluUnknown(t *testing.T) {
	for _, fn := range outside(api.Remuw) {
		pairs(func(a, b uint64) {
			if got := word.Alu(fn, a, b); got != 0 {
				t.Fatalf("Alu(%d, %#x, %#x) = %#x, want 0", fn, a, b, got)
			}
		})
	}
}

// P1.1: every operation against numbers that know no bound.
func TestAluAgainstBigNumbers(t *testing.T) {
	for fn := api.Add; fn <= api.Remuw; fn++ {
		pairs(func(a, b uint64) {
			if got, want := word.Alu(fn, a, b), bigAlu(fn, a, b); got != want {
				t.Fatalf("Alu(%d, %#x, %#x) = %#x, want %#x", fn, a, b, got, want)
			}
		})
	}
}

// wide is the operation of words that a W operation does with halves.
func wide(fn int) (of int, isHalf bool) {
	switch fn {
	case api.Addw:
		return api.Add, true
	case api.Subw:
		return api.Sub, true
	case api.Sllw:
		return api.Sll, true
	case api.Srlw:
		return api.Srl, true
	case api.Sraw:
		return api.Sra, true
	case api.Mulw:
		return api.Mul, true
	case api.Divw:
		return api.Div, true
	case api.Divuw:
		return api.Divu, true
	case api.Remw:
		return api.Rem, true
	case api.Remuw:
		return api.Remu, true
	}
	return fn, false
}

func bigAlu(fn int, a, b uint64) uint64 {
	of, isHalf := wide(fn)
	if isHalf {
		return word64(number(word64(bigOperation(of, a, b, 32)), 32, true))
	}
	return word64(bigOperation(of, a, b, 64))
}

func bigOperation(fn int, a, b uint64, width uint) *big.Int {
	sa, ua := number(a, width, true), number(a, width, false)
	sb, ub := number(b, width, true), number(b, width, false)
	shift := uint(b % uint64(width))
	out := new(big.Int)
	switch fn {
	case api.Add:
		return out.Add(sa, sb)
	case api.Sub:
		return out.Sub(sa, sb)
	case api.Xor:
		return out.Xor(ua, ub)
	case api.Or:
		return out.Or(ua, ub)
	case api.And:
		return out.And(ua, ub)
	case api.Sll:
		return out.Lsh(ua, shift)
	case api.Srl:
		return out.Rsh(ua, shift)
	case api.Sra:
		return out.Rsh(sa, shift)
	case api.Slt:
		return bigLess(sa, sb)
	case api.Sltu:
		return bigLess(ua, ub)
	case api.Mul:
		return out.Mul(ua, ub)
	case api.Mulh:
		return out.Rsh(out.Mul(sa, sb), 64)
	case api.Mulhsu:
		return out.Rsh(out.Mul(sa, ub), 64)
	case api.Mulhu:
		return out.Rsh(out.Mul(ua, ub), 64)
	case api.Div:
		return bigQuotient(sa, sb)
	case api.Divu:
		return bigQuotient(ua, ub)
	case api.Rem:
		return bigRest(sa, sb)
	case api.Remu:
		return bigRest(ua, ub)
	}
	return out
}

func bigLess(a, b *big.Int) *big.Int {
	if a.Cmp(b) < 0 {
		return big.NewInt(1)
	}
	return new(big.Int)
}

func bigQuotient(a, b *big.Int) *big.Int {
	if b.Sign() == 0 {
		return big.NewInt(-1)
	}
	return new(big.Int).Quo(a, b)
}

func bigRest(a, b *big.Int) *big.Int {
	if b.Sign() == 0 {
		return a
	}
	return new(big.Int).Rem(a, b)
}
