package word_test

import (
	"math"
	"math/big"
	"testing"

	"citadel/api"
	"citadel/word"
)

// otherSizes are sizes at which an atomic is of words.
func otherSizes() []int {
	return []int{8, 0, 1, 2, 3, 5, 7, 9, 16, 32, 64, -1, -4, -8, 1<<32 + 4, 256 + 4, math.MaxInt64, math.MinInt64}
}

// P1.3: the chapter's example, and what each atomic stores.
func TestAmo(t *testing.T) {
	top := uint64(1) << 31
	for i, x := range []struct {
		fn, size       int
		old, src, want uint64
	}{
		{api.AmoMax, 4, 1 << 31, 1, 1},
		{api.AmoSwap, 4, 1, high | top, top}, {api.AmoSwap, 8, 1, high | top, high | top},
		{api.AmoAdd, 4, 1<<32 - 1, 2, 1}, {api.AmoAdd, 4, high | 1, high | 2, 3}, {api.AmoAdd, 4, top - 1, 1, top}, {api.AmoAdd, 8, ones, 2, 1}, {api.AmoAdd, 8, 1<<32 - 1, 1, 1 << 32},
		{api.AmoXor, 4, high | 12, 10, 6}, {api.AmoXor, 8, high | 12, 10, high | 6},
		{api.AmoAnd, 4, ones, high | 10, 10}, {api.AmoAnd, 8, ones, high | 10, high | 10},
		{api.AmoOr, 4, high | top, 1, top | 1}, {api.AmoOr, 8, high | top, 1, high | top | 1},
		{api.AmoMin, 4, top, 1, top}, {api.AmoMin, 4, 1, top, top}, {api.AmoMin, 4, high | 1, 2, 1}, {api.AmoMin, 4, least | 2, 1, 1}, {api.AmoMin, 8, top, 1, 1}, {api.AmoMin, 8, least, 1, least}, {api.AmoMin, 8, 1, least, least},
		{api.AmoMax, 4, 1, top, 1}, {api.AmoMax, 4, high | 1, 2, 2}, {api.AmoMax, 4, least | 2, 1, 2}, {api.AmoMax, 8, top, 1, top}, {api.AmoMax, 8, least, 1, 1}, {api.AmoMax, 8, 1, least, 1},
		{api.AmoMinu, 4, top, 1, 1}, {api.AmoMinu, 4, 1, top, 1}, {api.AmoMinu, 4, high | 1, 2, 1}, {api.AmoMinu, 8, high | 1, 2, 2}, {api.AmoMinu, 8, least, 1, 1}, {api.AmoMinu, 8, 1, least, 1},
		{api.AmoMaxu, 4, top, 1, top}, {api.AmoMaxu, 4, 1, top, top}, {api.AmoMaxu, 4, high | 1, 2, 2}, {api.AmoMaxu, 8, high | 1, 2, high | 1}, {api.AmoMaxu, 8, least, 1, least}, {api.AmoMaxu, 8, 1, least, least},
	} {
		if got := word.Amo(x.fn, x.size, x.old, x.src); got != x.want {
			t.Errorf("%d: Amo(%d, %d, %#x, %#x) = %#x, want %#x", i, x.fn, x.size, x.old, x.src, got, x.want)
		}
	}
}

// P1.3: both sizes against numbers that know no bound; any other size is of words.
func TestAmoAgainstBigNumbers(t *testing.T) {
	for fn := api.AmoSwap; fn <= api.AmoMaxu; fn++ {
		pairs(func(old, src uint64) {
			if got, want := word.Amo(fn, 4, old, src), bigAmo(fn, old, src, 32); got != want {
				t.Fatalf("Amo(%d, 4, %#x, %#x) = %#x, want %#x", fn, old, src, got, want)
			}
			want := bigAmo(fn, old, src, 64)
			for _, size := range otherSizes() {
				if got := word.Amo(fn, size, old, src); got != want {
					t.Fatalf("Amo(%d, %d, %#x, %#x) = %#x, want %#x", fn, size, old, src, got, want)
				}
			}
		})
	}
}

// P1.3: old for another fn, of size 4 its low half.
func TestAmoUnknown(t *testing.T) {
	for _, fn := range outside(api.AmoMaxu) {
		pairs(func(old, src uint64) {
			if got := word.Amo(fn, 4, old, src); got != old&(1<<32-1) {
				t.Fatalf("Amo(%d, 4, %#x, %#x) = %#x", fn, old, src, got)
			}
			for _, size := range otherSizes() {
				if got := word.Amo(fn, size, old, src); got != old {
					t.Fatalf("Amo(%d, %d, %#x, %#x) = %#x", fn, size, old, src, got)
				}
			}
		})
	}
}

func bigAmo(fn int, old, src uint64, width uint) uint64 {
	so, uo := number(old, width, true), number(old, width, false)
	ss, us := number(src, width, true), number(src, width, false)
	out := new(big.Int)
	switch fn {
	case api.AmoSwap:
		out.Set(us)
	case api.AmoAdd:
		out.Add(uo, us)
	case api.AmoXor:
		out.Xor(uo, us)
	case api.AmoAnd:
		out.And(uo, us)
	case api.AmoOr:
		out.Or(uo, us)
	case api.AmoMin:
		out.Set(lesser(so, ss))
	case api.AmoMax:
		out.Neg(lesser(so.Neg(so), ss.Neg(ss)))
	case api.AmoMinu:
		out.Set(lesser(uo, us))
	case api.AmoMaxu:
		out.Neg(lesser(uo.Neg(uo), us.Neg(us)))
	}
	return out.And(out, below(width)).Uint64()
}

func lesser(a, b *big.Int) *big.Int {
	if a.Cmp(b) < 0 {
		return a
	}
	return b
}
