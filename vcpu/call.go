package vcpu

import (
	"slices"

	"citadel/api"
)

// Registers by which a call is made, and answered.
const (
	regArg0     = 10
	regArg1     = 11
	regArg2     = 12
	regFunction = 16
	regKind     = 17
)

// callSize is how many bytes the instruction has that makes a call.
const callSize = 4

// Call does a call.
func Call(vs []api.Vcpu, i int) (next []api.Vcpu, out []byte, down bool) {
	next = slices.Clone(vs)
	if i < 0 || i >= len(next) {
		return next, nil, false
	}
	for n := range next {
		next[n].Hart = inOrder(next[n].Hart)
	}
	a := answerTo(next, i)
	if !a.stays {
		h := &next[i].Hart
		h.PC += callSize
		h.X[regArg0], h.X[regArg1] = a.err, a.value
	}
	return next, a.out, a.down
}

// answer is what a call comes to, beside what it has turned.
type answer struct {
	err, value uint64
	stays      bool // it tells its caller nothing
	out        []byte
	down       bool
}

// answerTo does the call that number i makes, and answers it.
func answerTo(vs []api.Vcpu, i int) answer {
	x := vs[i].Hart.X
	do, ok := callsOf(vs, i)[nameOf(x[regKind], x[regFunction])]
	if !ok {
		return answer{err: errNone}
	}
	return do()
}
