package vcpu

import "citadel/api"

// Kinds of calls.
const (
	kindPut   = 1
	kindBase  = 0x10
	kindHarts = 0x48534d
	kindReset = 0x53525354
	kindTimer = 0x54494d45
	kindSend  = 0x735049
)

// Errors of calls, below 0.
const (
	errNone     = 1<<64 - 2
	errArgument = 1<<64 - 3
	errAlready  = 1<<64 - 6
)

const (
	// version is that of what can be called.
	version = 0x02000000
	// everyone stands for all harts where those are told from which on some are meant.
	everyone = 1<<64 - 1
)

// name is by what a call is told from others.
type name struct{ kind, function uint64 }

// nameOf is the name of a call. A byte is put by any function.
func nameOf(kind, function uint64) name {
	if kind == kindPut {
		return name{kind, 0}
	}
	return name{kind, function}
}

// callsOf are the calls that number i can make.
func callsOf(vs []api.Vcpu, i int) map[name]func() answer {
	v := &vs[i]
	x := v.Hart.X
	a, b, c := x[regArg0], x[regArg1], x[regArg2]
	var calls map[name]func() answer
	calls = map[name]func() answer{
		{kindBase, 0}: func() answer { return answer{value: version} },
		{kindBase, 3}: func() answer {
			_, ok := calls[name{a, 0}] // each kind has a function 0
			return answer{value: bit(ok, 1)}
		},
		{kindTimer, 0}: func() answer {
			v.Armed, v.Deadline = true, a
			v.Hart.Sip &^= timerBit
			return answer{}
		},
		{kindPut, 0}: func() answer { return answer{value: b, out: []byte{byte(a)}} },
		{kindSend, 0}: func() answer {
			send(vs, a, b)
			return answer{}
		},
		{kindHarts, 0}: func() answer { return start(vs, a, b, c) },
		{kindHarts, 1}: func() answer {
			v.State = api.Stopped
			return answer{stays: true}
		},
		{kindHarts, 2}: func() answer { return stopped(vs, a) },
		{kindReset, 0}: func() answer {
			for n := range vs {
				vs[n].State = api.Stopped
			}
			return answer{stays: true, down: true}
		},
	}
	return calls
}

// send interrupts the harts that are the bits of a mask, from one on, or everyone.
func send(vs []api.Vcpu, mask, from uint64) {
	for n := range vs {
		if from == everyone || mask>>(uint64(n)-from)&1 != 0 {
			vs[n].Hart.Sip |= softwareBit
		}
	}
}

// start lets a hart that is stopped begin.
func start(vs []api.Vcpu, n, pc, a1 uint64) answer {
	switch {
	case n >= uint64(len(vs)):
		return answer{err: errArgument}
	case vs[n].State != api.Stopped:
		return answer{err: errAlready}
	}
	vs[n] = started(pc, n, a1)
	return answer{}
}

// stopped tells whether a hart is stopped.
func stopped(vs []api.Vcpu, n uint64) answer {
	if n >= uint64(len(vs)) {
		return answer{err: errArgument}
	}
	return answer{value: bit(vs[n].State == api.Stopped, 1)}
}
