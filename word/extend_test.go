package word_test

import (
	"math"
	"testing"

	"citadel/word"
)

// P1.4: the chapter's example; the highest bit of the bytes down and up; bits above them.
func TestExtend(t *testing.T) {
	for i, x := range []struct {
		v      uint64
		size   int
		signed bool
		want   uint64
	}{
		{255, 1, true, ones}, {255, 1, false, 255}, {127, 1, true, 127}, {128, 1, true, ones - 127}, {128, 1, false, 128}, {256, 1, true, 0}, {high | 0x1ff, 1, false, 255}, {0xff00, 1, true, 0},
		{0xffff, 2, true, ones}, {0xffff, 2, false, 0xffff}, {0x7fff, 2, true, 0x7fff}, {0x8000, 2, true, ones - 0x7fff}, {0x8000, 2, false, 0x8000}, {1 << 16, 2, true, 0}, {high | 0x18000, 2, false, 0x8000}, {255, 2, true, 255},
		{1<<32 - 1, 4, true, ones}, {1<<32 - 1, 4, false, 1<<32 - 1}, {1<<31 - 1, 4, true, 1<<31 - 1}, {1 << 31, 4, true, least4}, {1 << 31, 4, false, 1 << 31}, {1 << 32, 4, true, 0}, {ones, 4, false, 1<<32 - 1}, {high | 7, 4, true, 7}, {0xffff, 4, true, 0xffff},
		{ones, 8, true, ones}, {ones, 8, false, ones}, {least, 8, false, least}, {0x80, 8, true, 0x80},
	} {
		if got := word.Extend(x.v, x.size, x.signed); got != x.want {
			t.Errorf("%d: Extend(%#x, %d, %v) = %#x, want %#x", i, x.v, x.size, x.signed, got, x.want)
		}
	}
}

// P1.4: of all samples, against numbers that know no bound.
func TestExtendAgainstBigNumbers(t *testing.T) {
	for _, v := range samples() {
		for _, size := range []int{1, 2, 4} {
			for _, signed := range []bool{false, true} {
				want := word64(number(v, uint(8*size), signed))
				if got := word.Extend(v, size, signed); got != want {
					t.Errorf("Extend(%#x, %d, %v) = %#x, want %#x", v, size, signed, got, want)
				}
			}
		}
	}
}

// P1.4: v for a size that is none of those named.
func TestExtendOtherSizes(t *testing.T) {
	for _, size := range []int{0, 3, 5, 6, 7, 8, 9, 16, 32, 64, -1, -2, -4, -8, 1<<32 + 1, 1<<32 + 4, 256 + 2, math.MaxInt64, math.MinInt64} {
		for _, v := range samples() {
			for _, signed := range []bool{false, true} {
				if got := word.Extend(v, size, signed); got != v {
					t.Errorf("Extend(%#x, %d, %v) = %#x", v, size, signed, got)
				}
			}
		}
	}
}
