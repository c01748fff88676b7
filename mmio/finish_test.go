package mmio_test

import (
	"math"
	"testing"

	"citadel/api"
	"citadel/hart"
	"citadel/mmio"
)

// values are what comes to a load, at the edges of each size.
var values = []uint64{
	0, 1, 0x7f, 0x80, 0xff, 0x100, 0x1ff, 0x7fff, 0x8000, 0xffff, 0x10000, 1<<31 - 1, 1 << 31, 1<<32 - 1, 1 << 32, 1<<40 | 1<<31,
	1<<63 - 1, 1 << 63, ones, 0x1122334455667788, 0x8877665584838281,
}

// sizes are those of accesses, and some that are none.
var sizes = append([]int{1, 2, 4, 8, 3}, others...)

// extended is a number of so many bytes as a word. Of a size that is none it is the word itself.
func extended(v uint64, size int, signed bool) uint64 {
	switch {
	case size == 1 && signed:
		return uint64(int8(v))
	case size == 2 && signed:
		return uint64(int16(v))
	case size == 4 && signed:
		return uint64(int32(v))
	case size == 1 || size == 2 || size == 4:
		return low(v, size)
	}
	return v
}

// finished is P15.3 read out.
func finished(h api.Hart, a api.Access, v uint64) api.Hart {
	h = ordered(h)
	h.PC += uint64(a.Len)
	if !a.Store && a.Reg >= 1 && a.Reg <= 31 {
		h.X[a.Reg] = extended(v, a.Size, a.Signed)
	}
	return ordered(h)
}

// P15.3: a load of each size, with and without sign, of sizes that are none too.
func TestFinishSizes(t *testing.T) {
	for _, size := range sizes {
		for _, signed := range []bool{false, true} {
			for _, v := range values {
				h := sample()
				want := h
				want.PC, want.X[10] = h.PC+4, extended(v, size, signed)
				same(t, "P15.3", mmio.Finish(h, api.Access{Size: size, Signed: signed, Reg: 10, Len: 4}, v), want)
			}
		}
	}
}

// P15.3: a load to each register; X[0] is never written, and numbers that are no register write none.
func TestFinishRegisters(t *testing.T) {
	for reg := range 32 {
		h := sample()
		want := h
		want.PC += 2
		if reg > 0 {
			want.X[reg] = 0xfffffffffffffff5
		}
		same(t, "P15.3", mmio.Finish(h, api.Access{Size: 1, Signed: true, Reg: reg, Len: 2}, 0x7f5), want)
	}
	for _, reg := range []int{32, 33, 63, 64, 255, 256 + 5, -1, -5, -31, -32, 1 << 32, 1<<32 + 5, math.MinInt, math.MinInt + 5, math.MaxInt} {
		h := sample()
		want := h
		want.PC += 4
		same(t, "P15.3", mmio.Finish(h, api.Access{Size: 4, Reg: reg, Len: 4, VA: 5, Value: 6}, 0x7f5), want)
	}
}

// P15.3: a store writes no register, whatever its Reg says.
func TestFinishStores(t *testing.T) {
	for _, reg := range append([]int{1, 10, 31}, others...) {
		for _, size := range sizes {
			h := sample()
			want := h
			want.PC += 4
			same(t, "P15.3", mmio.Finish(h, api.Access{Store: true, Size: size, Reg: reg, Len: 4, Value: 9}, 0x7f5), want)
		}
	}
}

// P15.3: PC is Len further, round from the last address to the first, and even, whatever Len is.
func TestFinishLengths(t *testing.T) {
	for _, x := range []struct {
		pc   uint64
		long int
		want uint64
	}{
		{base, 4, base + 4}, {base, 2, base + 2}, {base + 2, 4, base + 6}, {base, 0, base}, {base, -2, base - 2}, {0, -2, ones - 1},
		{ones - 1, 2, 0}, {ones - 1, 4, 2}, {ones - 3, 4, 0}, {ones - 3, 2, ones - 1}, {ones, 4, 2}, {ones, 2, 0},
		{base + 1, 4, base + 4}, {base + 1, 2, base + 2}, {base, 3, base + 2}, {base + 1, 3, base + 2}, {base + 1, 1, base},
		{base, -1, base - 2}, {0, math.MinInt, 1 << 63}, {4, math.MaxInt, 1<<63 + 2}, {1 << 63, math.MinInt, 0}, {base, 1 << 32, base + 1<<32},
	} {
		for _, a := range []api.Access{{Size: 4, Len: x.long}, {Size: 4, Reg: 5, Len: x.long}, {Store: true, Size: 4, Len: x.long}} {
			h := sample()
			h.PC = x.pc
			want := h
			want.PC = x.want
			if a.Reg == 5 {
				want.X[5] = 77
			}
			same(t, "P15.3", mmio.Finish(h, a, 77), want)
		}
	}
}

// P15.3: the hart that is handed in is brought in order; nothing else of it turns.
func TestFinishInOrder(t *testing.T) {
	for _, h := range []api.Hart{sample(), disordered(), {}, {User: true, Mxr: true, Spie: true}, turned(sample()), turned(disordered())} {
		for _, a := range []api.Access{{}, {Len: 4}, {Size: 2, Signed: true, Reg: 31, Len: 2}, {Size: 8, Reg: 1, Len: 4}, {Store: true, Reg: 5, Len: 2}} {
			for _, v := range values {
				same(t, "P15.3", mmio.Finish(h, a, v), finished(h, a, v))
			}
		}
	}
}

// turned is a hart with all its flags turned.
func turned(h api.Hart) api.Hart {
	h.User, h.On, h.Spie, h.Spp = !h.User, !h.On, !h.Spie, !h.Spp
	h.Sum, h.Mxr, h.Reserved = !h.Sum, !h.Mxr, !h.Reserved
	return h
}

// refused is P15.3 read out, with P6.2 in hart.Trap's place.
func refused(h api.Hart, ev api.Event) api.Hart {
	h = ordered(h)
	g := h
	g.Scause = 7
	switch ev.Access {
	case api.Fetch:
		g.Scause = 1
	case api.Load:
		g.Scause = 5
	}
	g.Sepc, g.Stval = h.PC, ev.VA
	g.Spp, g.Spie, g.On, g.User = !h.User, h.On, false, false
	g.PC = h.Stvec / 4 * 4
	return g
}

// P15.3: the causes are 1, 5 and 7, and 7 of any other access; the value is VA.
func TestRefuse(t *testing.T) {
	causes := map[int]uint64{api.Fetch: 1, api.Load: 5, api.Store: 7}
	for _, other := range others {
		causes[other] = 7
	}
	for access, cause := range causes {
		for _, va := range []uint64{0, 77, 0x10000005, 1 << 39, 1 << 63, ones} {
			ev := api.Event{Kind: api.ExitFault, Access: access, VA: va, GPA: 0x999}
			g := mmio.Refuse(sample(), ev)
			if g.Scause != cause || g.Stval != va || g.Sepc != base+0x40 || g.PC != 0x7000 {
				t.Errorf("P15.3: Refuse of %+v: Scause %d, Stval %#x, Sepc %#x, PC %#x", ev, g.Scause, g.Stval, g.Sepc, g.PC)
			}
			same(t, "P15.3", g, refused(sample(), ev))
			same(t, "P15.3", g, hart.Trap(sample(), cause, va))
		}
	}
}

// P15.3: of the event Access and VA alone count; the hart is brought in order.
func TestRefuseAnyHart(t *testing.T) {
	for _, h := range []api.Hart{sample(), disordered(), {}, {User: true, On: true, Stvec: ones}, turned(sample()), turned(disordered()), {PC: ones, Stvec: 3}} {
		for _, access := range append([]int{api.Fetch, api.Load, api.Store}, others...) {
			for _, ev := range []api.Event{
				{Access: access, VA: 0x123}, {Kind: api.ExitFault, Access: access, VA: 0x123, GPA: ones, Walk: true},
				{Kind: api.ExitCall, Access: access, VA: 0x123, GPA: 5, Wrote: true}, {Kind: -1, Access: access, VA: 0x123},
			} {
				same(t, "P15.3", mmio.Refuse(h, ev), refused(h, ev))
			}
		}
	}
}
