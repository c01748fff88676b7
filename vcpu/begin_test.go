package vcpu_test

import (
	"math"
	"testing"

	"citadel/api"
	"citadel/hart"
	"citadel/vcpu"
)

// P17.1: number 0 runs from pc on, all others are stopped at 0; a0 of number i is not set.
func TestBegin(t *testing.T) {
	for harts := 1; harts <= api.MaxVcpus; harts++ {
		for _, pc := range edges {
			vs := vcpu.Begin(harts, pc)
			if len(vs) != harts {
				t.Fatalf("P17.1: Begin(%d, %#x) are %d", harts, pc, len(vs))
			}
			for i, v := range vs {
				want := api.Vcpu{State: api.Stopped, Hart: hart.Reset(0, 0, 0)}
				if i == 0 {
					want = api.Vcpu{State: api.Running, Hart: hart.Reset(pc, 0, 0)}
				}
				same(t, "P17.1", v, want)
			}
		}
	}
}

// P17.1: the lowest bit of pc is 0.
func TestBeginAtAnOddPlace(t *testing.T) {
	for pc, want := range map[uint64]uint64{0: 0, 1: 0, base + 1: base, base + 3: base + 2, ones: ones - 1} {
		vs := vcpu.Begin(2, pc)
		same(t, "P17.1", vs[0], api.Vcpu{State: api.Running, Hart: api.Hart{PC: want}})
		same(t, "P17.1", vs[1], api.Vcpu{})
	}
}

// P17.1: there are none, if harts is not from 1 to MaxVcpus.
func TestBeginNone(t *testing.T) {
	for _, harts := range []int{0, -1, -2, -64, 65, 66, 128, 1 << 16, 1 << 32, 1<<32 + 1, math.MinInt, math.MaxInt} {
		if vs := vcpu.Begin(harts, base); len(vs) != 0 {
			t.Errorf("P17.1: Begin(%d) are %d", harts, len(vs))
		}
	}
}

// R3, R4: each answer is new memory, and hangs on nothing but the arguments.
func TestBeginTwice(t *testing.T) {
	vs := vcpu.Begin(3, base)
	all := vs[:cap(vs)]
	for i := range all {
		all[i] = sample()
	}
	sameAll(t, "R4", vcpu.Begin(3, base), []api.Vcpu{{State: api.Running, Hart: api.Hart{PC: base}}, {}, {}})
}
