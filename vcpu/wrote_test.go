package vcpu_test

import (
	"fmt"
	"math/rand"
	"testing"

	"citadel/api"
	"citadel/vcpu"
)

// reserving are so many virtual harts of all sorts, each of which reserves an address.
func reserving(n int, at uint64) []api.Vcpu {
	sorts := several()
	vs := make([]api.Vcpu, n)
	for i := range vs {
		vs[i] = sorts[i%len(sorts)]
		vs[i].Hart.Reserved, vs[i].Hart.Reservation = true, at
	}
	return vs
}

// taken is P17.2 read out.
func taken(vs []api.Vcpu, i int, gpa uint64) []api.Vcpu {
	next := append([]api.Vcpu{}, vs...)
	for n, v := range vs {
		if n != i && v.Hart.Reserved && v.Hart.Reservation-v.Hart.Reservation%8 == gpa-gpa%8 {
			next[n].Hart.Reserved = false
		}
	}
	return next
}

// P17.2: each other one loses its reservation, and nothing else; number i keeps it; of an i that is none each other one
// is everyone.
func TestWroteOthers(t *testing.T) {
	for _, n := range lists {
		vs := reserving(n, base+0x100)
		for _, i := range append(indexes, 0, 1, 2, n/2, n-1, n, n+1) {
			got := wrote(t, vs, i, base+0x100)
			for k, v := range got {
				want := vs[k]
				want.Hart.Reserved = k == i
				same(t, fmt.Sprintf("P17.2: Wrote(%d of %d): number %d", i, n, k), v, want)
			}
			if len(got) != n {
				t.Errorf("P17.2: Wrote(%d of %d) are %d", i, n, len(got))
			}
		}
	}
}

// P17.2: only the same 8 bytes count, whichever of them.
func TestWroteBytes(t *testing.T) {
	for _, block := range []uint64{0, 8, base, base + 0x100, 1 << 32, 1 << 63, ones - 7} {
		for a := range uint64(8) {
			for b := range uint64(24) {
				at, gpa := block+a, block-8+b
				got := wrote(t, reserving(2, at), 0, gpa)
				if !got[0].Hart.Reserved || got[1].Hart.Reserved == (b >= 8 && b < 16) || got[1].Hart.Reservation != at {
					t.Errorf("P17.2: Wrote at %#x: of %#x %v", gpa, at, got[1].Hart.Reserved)
				}
			}
		}
	}
	for bit := 3; bit < 64; bit++ {
		if got := wrote(t, reserving(2, base+4), 0, base^1<<bit); !got[1].Hart.Reserved {
			t.Errorf("P17.2: Wrote takes what is 2^%d away", bit)
		}
	}
}

// P17.2: where none stands, none comes.
func TestWroteWithoutReservation(t *testing.T) {
	for _, gpa := range []uint64{0, 7, 8, base, ones} {
		vs := several()
		for i := range vs {
			vs[i].Hart.Reserved, vs[i].Hart.Reservation = false, gpa
		}
		for _, i := range []int{0, 1, -1} {
			sameAll(t, "P17.2", wrote(t, vs, i, gpa), vs)
		}
	}
}

// P17.2: of no virtual harts there are none.
func TestWroteNone(t *testing.T) {
	for _, i := range append(indexes, 0, 1) {
		if len(vcpu.Wrote(nil, i, 0)) != 0 || len(wrote(t, []api.Vcpu{}, i, 0)) != 0 {
			t.Error("P17.2: Wrote of none")
		}
	}
}

// P17.2: by chance, against the chapter read out.
func TestWroteByChance(t *testing.T) {
	r := rand.New(rand.NewSource(17))
	for range 3000 {
		vs := crowd(r, r.Intn(6))
		i, gpa := r.Intn(8)-1, base+uint64(r.Intn(32))
		sameAll(t, "P17.2", wrote(t, vs, i, gpa), taken(vs, i, gpa))
	}
}
