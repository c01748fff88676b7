package hart

import "citadel/api"

// Causes of traps.
const (
	causeIllegal   = 2
	causeBreak     = 3
	causeOddLoad   = 4
	causeOddStore  = 6
	causeCall      = 8
	causePageFetch = 12
	causePageLoad  = 13
	causePageStore = 15
	// causeInterrupt is the bit that says that the others are an interrupt's number.
	causeInterrupt = 1 << 63
)

// Interrupts, by the bits that they have in Sie and Sip.
const (
	software = 1
	timer    = 5
	external = 9
)

const (
	allInterrupts = 1<<software | 1<<timer | 1<<external
	// vectored is the bit of Stvec that gives each interrupt a place of its own.
	vectored = 1
	// unusedMode is the bit of Stvec beside it, which is always 0.
	unusedMode = 2
	// vectorSize is how far from one another these places lie.
	vectorSize = 4
	// odd is the bit that no address of an instruction has.
	odd = 1
)

// inOrder is a hart in which all is 0 that must be.
func inOrder(h api.Hart) api.Hart {
	h.X[0] = 0
	h.PC &^= odd
	h.Sepc &^= odd
	h.Stvec &^= unusedMode
	h.Sie &= allInterrupts
	h.Sip &= allInterrupts
	return h
}

// Trap is a hart that has trapped.
func Trap(h api.Hart, cause, value uint64) api.Hart {
	h = inOrder(h)
	h.Sepc, h.Scause, h.Stval = h.PC, cause, value
	h.Spp, h.Spie = !h.User, h.On
	h.On, h.User = false, false
	h.PC = h.Stvec &^ vectored
	if cause&causeInterrupt != 0 && h.Stvec&vectored != 0 {
		h.PC += vectorSize * (cause &^ causeInterrupt)
	}
	return h
}

// interrupt is the cause of the interrupt that a hart takes, and whether it takes one.
func interrupt(h api.Hart) (uint64, bool) {
	if !h.User && !h.On {
		return 0, false
	}
	for _, n := range [...]uint64{external, software, timer} {
		if h.Sip&h.Sie&(1<<n) != 0 {
			return causeInterrupt | n, true
		}
	}
	return 0, false
}
