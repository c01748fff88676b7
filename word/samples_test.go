package word_test

import (
	"math"
	"math/big"
)

const (
	ones   = ^uint64(0)
	least  = uint64(1) << 63      // -2^63
	least4 = ones - (1<<31 - 1)   // -2^31, extended
	high   = uint64(0xabcd) << 32 // bits that must not count for a low half
)

// edges are words at which signs turn, halves end, and shifts run over.
func edges() []uint64 {
	return []uint64{
		0, 1, 2, 3, 5, 6, 7, 15, 16, 31, 32, 33, 63, 64, 65, 127, 128, 255, 256,
		1<<15 - 1, 1 << 15, 1 << 16, 1<<31 - 1, 1 << 31, 1<<31 + 1, 1<<32 - 1, 1 << 32, 1<<32 + 1,
		1<<32 | 1<<31, high, high | 7, high | 1<<31, high | 0xffffffff,
		1<<63 - 1, least, least + 1, least | 1<<31, least4 - 1, least4, least4 + 1,
		ones, ones - 1, ones - 2, ones - 6, ones - 31, ones - 63, 0x0123456789abcdef, 0xfedcba9876543210,
	}
}

// samples are the edges, and words that a fixed rule scatters.
func samples() []uint64 {
	out := edges()
	x := uint64(88172645463325252)
	for range 60 {
		x ^= x << 13
		x ^= x >> 7
		x ^= x << 17
		out = append(out, x)
	}
	return out
}

// pairs calls f for every two samples.
func pairs(f func(a, b uint64)) {
	all := samples()
	for _, a := range all {
		for _, b := range all {
			f(a, b)
		}
	}
}

// outside are numbers that stand in no table that ends at last.
func outside(last int) []int {
	return []int{0, -1, -2, -last, last + 1, last + 2, 64, 255, 256, 257, 1 << 16, 1<<32 + 1, 1<<32 + last, math.MaxInt32, math.MinInt32, math.MaxInt64, math.MinInt64, math.MinInt64 + 1}
}

// number is the low width bits of v, with their sign or without.
func number(v uint64, width uint, signed bool) *big.Int {
	n := new(big.Int).SetUint64(v)
	n.And(n, below(width))
	if signed && n.Bit(int(width)-1) == 1 {
		n.Sub(n, new(big.Int).Lsh(big.NewInt(1), width))
	}
	return n
}

// below is 2^width - 1.
func below(width uint) *big.Int {
	n := new(big.Int).Lsh(big.NewInt(1), width)
	return n.Sub(n, big.NewInt(1))
}

// word64 is n modulo 2^64.
func word64(n *big.Int) uint64 {
	return new(big.Int).And(n, below(64)).Uint64()
}
