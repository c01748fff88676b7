// Package word is layer 1: the arithmetic of RV64IMA. See shared/doc/01-word.md.
package word

// Alu is what an operation answers.
func Alu(fn int, a, b uint64) uint64 {
	operate := operation(fn)
	return uint64(operate(word(a), word(b)))
}

// Branch tells whether a condition holds.
func Branch(fn int, a, b uint64) bool {
	holds := condition(fn)
	return holds(word(a), word(b))
}

// Amo is what an atomic stores.
func Amo(fn, size int, old, src uint64) uint64 {
	update := atomic(fn)
	if size != 4 {
		return uint64(update(word(old), word(src)))
	}
	// Extended halves stand in the same order as the halves, with signs and
	// without, so the words' own methods serve this size too.
	return uint64(update(word(old).extended(), word(src).extended()).half())
}

// Extend makes a word of some bytes.
func Extend(v uint64, size int, signed bool) uint64 {
	if size != 1 && size != 2 && size != 4 {
		return v
	}
	spare := 64 - 8*size
	if signed {
		return uint64(int64(v<<spare) >> spare)
	}
	return v << spare >> spare
}
