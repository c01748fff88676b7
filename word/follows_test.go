package word_test

import (
	"math/big"
	"testing"

	"citadel/api"
	"citadel/word"
)

// P1.5: quotient times divisor, and the rest, make the dividend, but by 0.
func TestQuotientAndRestMakeTheDividend(t *testing.T) {
	pairs(func(a, b uint64) {
		for _, x := range [][2]int{{api.Div, api.Rem}, {api.Divu, api.Remu}} {
			if got := word.Alu(x[0], a, b)*b + word.Alu(x[1], a, b); b != 0 && got != a {
				t.Fatalf("%d, %d of %#x, %#x make %#x", x[0], x[1], a, b, got)
			}
		}
		for _, x := range [][2]int{{api.Divw, api.Remw}, {api.Divuw, api.Remuw}} {
			if got := word.Alu(x[0], a, b)*b + word.Alu(x[1], a, b); uint32(b) != 0 && uint32(got) != uint32(a) {
				t.Fatalf("%d, %d of %#x, %#x make %#x", x[0], x[1], a, b, got)
			}
		}
	})
}

// P1.5: the high and the low word of a product are one number of 128 bits.
func TestProductIsOneNumber(t *testing.T) {
	for _, x := range []struct {
		fn               int
		signedA, signedB bool
	}{{api.Mulh, true, true}, {api.Mulhsu, true, false}, {api.Mulhu, false, false}} {
		pairs(func(a, b uint64) {
			want := new(big.Int).Mul(number(a, 64, x.signedA), number(b, 64, x.signedB))
			got := number(word.Alu(x.fn, a, b), 64, x.signedA)
			got.Lsh(got, 64).Add(got, number(word.Alu(api.Mul, a, b), 64, false))
			if got.Cmp(want) != 0 {
				t.Fatalf("%d: %#x times %#x is told as %v, not %v", x.fn, a, b, got, want)
			}
		})
	}
}

// P1.5: the W operations hang on the low halves alone, and answer words that are extended.
func TestHalvesAlone(t *testing.T) {
	for fn := api.Addw; fn <= api.Remuw; fn++ {
		pairs(func(a, b uint64) {
			want := word.Alu(fn, a&(1<<32-1), b&(1<<32-1))
			if want != word.Extend(want, 4, true) {
				t.Fatalf("Alu(%d, %#x, %#x) = %#x is not extended", fn, a, b, want)
			}
			for _, above := range []uint64{a, 1 << 32, least, high, ones - (1<<32 - 1)} {
				got := word.Alu(fn, a^above>>32<<32, b)
				other := word.Alu(fn, a, b^above>>32<<32)
				if got != want || other != want {
					t.Fatalf("Alu(%d, %#x, %#x) hangs on a high half", fn, a, b)
				}
			}
		})
	}
}
