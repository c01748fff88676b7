package word_test

import (
	"testing"

	"citadel/api"
	"citadel/word"
)

// P1.2: each condition of words that are equal, and that lie on two sides of a sign.
func TestBranch(t *testing.T) {
	for i, x := range []struct {
		a, b uint64
		want [api.Bgeu + 1]bool // by the condition's number: Beq, Bne, Blt, Bge, Bltu, Bgeu
	}{
		{0, 0, [...]bool{false, true, false, false, true, false, true}},
		{ones, ones, [...]bool{false, true, false, false, true, false, true}},
		{least, least, [...]bool{false, true, false, false, true, false, true}},
		{1, 2, [...]bool{false, false, true, true, false, true, false}},
		{2, 1, [...]bool{false, false, true, false, true, false, true}},
		{ones, 0, [...]bool{false, false, true, true, false, false, true}},
		{0, ones, [...]bool{false, false, true, false, true, true, false}},
		{least, least - 1, [...]bool{false, false, true, true, false, false, true}},
		{least - 1, least, [...]bool{false, false, true, false, true, true, false}},
		{1 << 31, 1, [...]bool{false, false, true, false, true, false, true}},
		{1 << 32, 0, [...]bool{false, false, true, false, true, false, true}},
		{ones - 1, ones, [...]bool{false, false, true, true, false, true, false}},
	} {
		for fn := api.Beq; fn <= api.Bgeu; fn++ {
			if got := word.Branch(fn, x.a, x.b); got != x.want[fn] {
				t.Errorf("%d: Branch(%d, %#x, %#x) = %v", i, fn, x.a, x.b, got)
			}
		}
	}
}

// P1.2: against numbers that know no bound.
func TestBranchAgainstBigNumbers(t *testing.T) {
	pairs(func(a, b uint64) {
		signed := number(a, 64, true).Cmp(number(b, 64, true))
		unsigned := number(a, 64, false).Cmp(number(b, 64, false))
		want := [api.Bgeu + 1]bool{
			api.Beq: unsigned == 0, api.Bne: unsigned != 0,
			api.Blt: signed < 0, api.Bge: signed >= 0,
			api.Bltu: unsigned < 0, api.Bgeu: unsigned >= 0,
		}
		for fn := api.Beq; fn <= api.Bgeu; fn++ {
			if got := word.Branch(fn, a, b); got != want[fn] {
				t.Fatalf("Branch(%d, %#x, %#x) = %v", fn, a, b, got)
			}
		}
	})
}

// P1.2: false for another fn.
func TestBranchUnknown(t *testing.T) {
	for _, fn := range outside(api.Bgeu) {
		pairs(func(a, b uint64) {
			if word.Branch(fn, a, b) {
				t.Fatalf("Branch(%d, %#x, %#x) is true", fn, a, b)
			}
		})
	}
}
