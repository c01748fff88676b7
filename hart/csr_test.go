package hart_test

import (
	"math"
	"testing"

	"citadel/api"
	"citadel/hart"
)

// csrs are the numbers of all that there are but time.
var csrs = []int{0x100, 0x104, 0x105, 0x140, 0x141, 0x142, 0x143, 0x144, 0x180}

// noCsrs are numbers of none: those that a machine has elsewhere among them, and those that are one only in their low bits.
func noCsrs() []int {
	list := []int{-1, math.MinInt, math.MaxInt, 0x1100, 1<<12 | 0x140, 1<<32 | 0x140, 1<<32 | 0xc01, -0x140}
	for csr := range 0x1000 {
		known := csr == 0xc01
		for _, c := range csrs {
			known = known || c == csr
		}
		if !known {
			list = append(list, csr)
		}
	}
	return list
}

// field is what a hart holds for a CSR that is a plain number.
func field(h *api.Hart, csr int) *uint64 {
	return map[int]*uint64{
		0x104: &h.Sie, 0x105: &h.Stvec, 0x140: &h.Sscratch, 0x141: &h.Sepc,
		0x142: &h.Scause, 0x143: &h.Stval, 0x144: &h.Sip, 0x180: &h.Satp,
	}[csr]
}

// bitsOf are which bits a CSR has that is a plain number.
func bitsOf(csr int) uint64 {
	switch csr {
	case 0x104, 0x144:
		return 0x222
	case 0x105:
		return ones - 2
	case 0x141:
		return ones - 1
	}
	return ones
}

// values are words to be written: each bit alone, all but each, and some more.
func values() []uint64 {
	list := []uint64{0, ones, 0x5555_5555_5555_5555, 0xaaaa_aaaa_aaaa_aaaa}
	for i := range 64 {
		list = append(list, 1<<i, ones-1<<i)
	}
	return list
}

// reads fails if Read does not answer so.
func reads(t *testing.T, h api.Hart, csr int, now, want uint64, ok bool) {
	t.Helper()
	if v, is := hart.Read(h, csr, now); v != want || is != ok {
		t.Errorf("P6.3: Read(%#x) = %#x, %v, not %#x, %v", csr, v, is, want, ok)
	}
}

// writes fails if Write does not answer so.
func writes(t *testing.T, h api.Hart, csr int, v uint64, want api.Hart, ok bool) {
	t.Helper()
	if g, is := hart.Write(h, csr, v); g != want || is != ok {
		t.Errorf("P6.3: Write(%#x, %#x): %v, not %v: %s", csr, v, is, ok, unlike(g, want))
	}
}

// P6.3: CSRs that are numbers, whatever the hart holds there.
func TestReadNumbers(t *testing.T) {
	for _, csr := range csrs[1:] {
		for _, v := range values() {
			h := sample()
			*field(&h, csr) = v
			reads(t, h, csr, now, v&bitsOf(csr), true)
			h.User = true
			reads(t, h, csr, now, 0, false)
		}
	}
}

// P6.3: sstatus, of all that it is made of.
func TestReadStatus(t *testing.T) {
	for i := range 32 {
		h := sample()
		h.On, h.Spie, h.Spp, h.Sum, h.Mxr = i&1 != 0, i&2 != 0, i&4 != 0, i&8 != 0, i&16 != 0
		want := uint64(2 << 32)
		for j, bit := range []int{1, 5, 8, 18, 19} {
			want += uint64(i>>j&1) << bit
		}
		reads(t, h, 0x100, now, want, true)
		h.User = true
		reads(t, h, 0x100, now, 0, false)
	}
}

// P6.3: time is now, for users too, and never written.
func TestTime(t *testing.T) {
	for _, h := range []api.Hart{{}, sample(), sampleUser(), {User: true}} {
		for _, v := range values() {
			reads(t, h, 0xc01, v, v, true)
			writes(t, h, 0xc01, v, ordered(h), false)
		}
	}
}

// P6.3: there are no others, to be read or to be written.
func TestNoCsrs(t *testing.T) {
	for _, csr := range noCsrs() {
		for _, h := range []api.Hart{sample(), sampleUser()} {
			reads(t, h, csr, now, 0, false)
			writes(t, h, csr, ones, ordered(h), false)
		}
	}
}

// P6.3: what a write of each CSR leaves, and that nothing else turns; a user writes none.
func TestWrite(t *testing.T) {
	for _, csr := range csrs {
		for _, v := range values() {
			for _, h := range []api.Hart{sample(), {}, {Sip: 0x20, Satp: 3 << 60, Spp: true, On: true, Mxr: true}} {
				want := ordered(h)
				switch csr {
				case 0x100:
					want.On, want.Spie, want.Spp = v>>1&1 == 1, v>>5&1 == 1, v>>8&1 == 1
					want.Sum, want.Mxr = v>>18&1 == 1, v>>19&1 == 1
				case 0x144:
					want.Sip = want.Sip - want.Sip&2 + v&2
				case 0x180:
					if v>>60 == 0 || v>>60 == 8 {
						want.Satp = v
					}
				default:
					*field(&want, csr) = v & bitsOf(csr)
				}
				writes(t, h, csr, v, want, true)
				h.User = true
				writes(t, h, csr, v, ordered(h), false)
			}
		}
	}
}

// P6.3: a write of satp counts as a whole or not at all.
func TestWriteSatp(t *testing.T) {
	for mode := range uint64(16) {
		for _, rest := range []uint64{0, 1, 1<<44 - 1, 1 << 44, 1<<60 - 1} {
			h := sample()
			want := h
			if mode == 0 || mode == 8 {
				want.Satp = mode<<60 | rest
			}
			writes(t, h, 0x180, mode<<60|rest, want, true)
		}
	}
}

// P6.3: Read and Write bring the hart in order first.
func TestCsrsOfAHartOutOfOrder(t *testing.T) {
	h := sample()
	h.X[0], h.PC, h.Sepc, h.Stvec, h.Sie, h.Sip, h.Satp = 5, 0x1235, ones, ones, ones, ones, 5<<60|7
	for csr, want := range map[int]uint64{0x104: 0x222, 0x144: 0x222, 0x105: ones - 2, 0x141: ones - 1, 0x180: 5<<60 | 7} {
		reads(t, h, csr, now, want, true)
	}
	want := ordered(h)
	for _, user := range []bool{false, true} {
		h.User, want.User = user, user
		writes(t, h, 0x300, 1, want, false)
		writes(t, h, 0xc01, 1, want, false)
		writes(t, h, 0x180, 9<<60, want, !user)
	}
	h.User, want.User = false, false
	want.Sscratch = 4
	writes(t, h, 0x140, 4, want, true)
	want.Sscratch, want.Sip = h.Sscratch, 0x220
	writes(t, h, 0x144, 0, want, true)
}
