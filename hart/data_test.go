package hart_test

import (
	"testing"

	"citadel/api"
	"citadel/word"
)

const (
	// there is where the data of a plain world stand.
	there = base + size + 0x80
	// end is the first address behind a plain world's memory.
	end = base + 2*size
	// pattern has another sign in each of its sizes than beside them.
	pattern = 0x8182_0384_7516_0798
)

// loads are all loads, by their sizes and signs.
var loads = []api.Inst{
	{Kind: api.KindLoad, Size: 1, Signed: true}, {Kind: api.KindLoad, Size: 2, Signed: true}, {Kind: api.KindLoad, Size: 4, Signed: true}, {Kind: api.KindLoad, Size: 8, Signed: true},
	{Kind: api.KindLoad, Size: 1}, {Kind: api.KindLoad, Size: 2}, {Kind: api.KindLoad, Size: 4},
}

// sizes are those of numbers in the memory.
var sizes = []int{1, 2, 4, 8}

// low is a number's low bytes.
func low(v uint64, size int) uint64 { return word.Extend(v, size, false) }

// accesses are an instruction of each kind and size that goes to the memory at X[6], with X[7] where it stores.
func accesses() []api.Inst {
	var list []api.Inst
	for _, i := range loads {
		i.Rd, i.Rs1 = 5, 6
		list = append(list, i)
	}
	for _, n := range sizes {
		list = append(list, api.Inst{Kind: api.KindStore, Rs1: 6, Rs2: 7, Size: n})
	}
	for _, n := range []int{4, 8} {
		list = append(list, api.Inst{Kind: api.KindLr, Rd: 5, Rs1: 6, Size: n}, api.Inst{Kind: api.KindSc, Rd: 5, Rs1: 6, Rs2: 7, Size: n})
		for fn := api.AmoSwap; fn <= api.AmoMaxu; fn++ {
			list = append(list, api.Inst{Kind: api.KindAmo, Fn: fn, Rd: 5, Rs1: 6, Rs2: 7, Size: n})
		}
	}
	return list
}

// asks is the access that an instruction is translated as.
func asks(i api.Inst) int {
	if i.Kind == api.KindLoad || i.Kind == api.KindLr {
		return api.Load
	}
	return api.Store
}

// comesTo is what an access that comes to an address leaves: the hart, the event, and the number there, of that many bytes.
func comesTo(i api.Inst, h api.Hart, gpa, old uint64) (api.Hart, api.Event, uint64) {
	g, y := behind(h, 4), h.X[i.Rs2]
	signed := func(v uint64) uint64 { return word.Extend(v, i.Size, true) }
	switch i.Kind {
	case api.KindLoad:
		return with(g, uint64(i.Rd), word.Extend(old, i.Size, i.Signed)), api.Event{}, old
	case api.KindStore:
		return g, wrote(gpa), low(y, i.Size)
	case api.KindLr:
		g.Reserved, g.Reservation = true, gpa
		return with(g, uint64(i.Rd), signed(old)), api.Event{}, old
	case api.KindSc:
		g.Reserved = false
		if !h.Reserved || h.Reservation != gpa {
			return with(g, uint64(i.Rd), 1), api.Event{}, old
		}
		return with(g, uint64(i.Rd), 0), wrote(gpa), low(y, i.Size)
	}
	return with(g, uint64(i.Rd), signed(old)), wrote(gpa), low(word.Amo(i.Fn, i.Size, old, y), i.Size)
}

// goes holds an access, that comes to pa, against what it must leave there, beside it, and in the hart.
func (w world) goes(i api.Inst, h api.Hart, gpa, pa uint64) {
	w.t.Helper()
	was := w.all()
	want, ev, v := comesTo(i, h, gpa, w.get(pa, i.Size))
	for b := range i.Size {
		was[pa-w.m.Base()+uint64(b)] = byte(v >> (8 * b))
	}
	w.does("P6.5", h, want, ev)
	if string(w.all()) != string(was) {
		w.t.Errorf("P6.5: %+v of %#x leaves %#x at %#x, not %#x, or has turned other bytes", i, h.X[i.Rs2], w.get(pa, i.Size), pa, v)
	}
}

// P6.5: every access to a place in the memory; each register as Rd, Rs1 and Rs2, and all ways in which they may be alike.
func TestAccesses(t *testing.T) {
	for _, i := range accesses() {
		for _, rd := range regs {
			for _, rs1 := range regs[1:] {
				for _, rs2 := range regs {
					if i.Rd != 0 {
						i.Rd = rd
					}
					i.Rs1 = rs1
					if i.Rs2 != 0 {
						i.Rs2 = rs2
					}
					w := plain(t, i)
					w.set(there, 8, pattern)
					for _, h := range []api.Hart{sample(), sampleUser()} {
						h = with(h, uint64(rs2), 0x7a6b_dc5d_8e4f_3021, uint64(rs1), there)
						h.Reservation = there
						w.goes(i, h, there, there)
					}
				}
			}
		}
	}
}

// P6.5: the address of a load and a store is x + Imm, modulo 2^64.
func TestImmediates(t *testing.T) {
	for _, i := range []api.Inst{{Kind: api.KindLoad, Rd: 5, Rs1: 6, Size: 8, Signed: true}, {Kind: api.KindLoad, Rd: 5, Size: 1}, {Kind: api.KindStore, Rs1: 6, Rs2: 7, Size: 8}, {Kind: api.KindStore, Rs2: 7, Size: 2}} {
		for _, imm := range []int{0, 8, -8, 2040, -2048} {
			i.Imm = imm
			if i.Rs1 != 0 {
				w := plain(t, i)
				w.set(there, 8, pattern)
				w.goes(i, with(sample(), 6, there-uint64(imm)), there, there)
			} else { // X[0] is 0, and an address may be just below 2^64
				plain(t, i).exits(sample(), api.Event{Access: asks(i), VA: uint64(imm), GPA: uint64(imm)})
			}
		}
	}
	w := newWorld(t, 0, 2, 1)
	w.code(0x40, api.Inst{Kind: api.KindLoad, Rd: 5, Rs1: 6, Size: 8, Signed: true, Imm: 16})
	w.set(8, 8, pattern)
	h := with(at(0x40), 6, ones-7)
	w.retires(h, behind(with(h, 5, pattern), 4))
}

// P6.6: what has nothing to store turns no byte, at the first addresses neither, though its size is one of a store.
func TestNothingIsStored(t *testing.T) {
	for _, i := range accesses() {
		w := newWorld(t, 0, 2, 1)
		w.code(0x40, i)
		w.set(0, 8, pattern)
		w.set(size, 8, pattern)
		h := with(at(0x40), 6, size)
		h.Reserved = false
		w.goes(i, h, size, size)
		w.exits(with(h, 6, 2*size), api.Event{Access: asks(i), VA: 2 * size, GPA: 2 * size})
		if i.Size > 1 {
			w.traps("P6.5", with(h, 6, size+1), oddCause(i), size+1)
		}
	}
}

// P6.5: each size at the first and the last places of the memory, and further.
func TestEdgesOfTheMemory(t *testing.T) {
	for _, i := range accesses() {
		n := uint64(i.Size)
		w := plain(t, i)
		w.set(end-8, 8, pattern)
		for _, addr := range []uint64{base, end - n, end - 2*n, end - 8} {
			h := with(sample(), 6, addr)
			h.Reservation = addr
			w.goes(i, h, addr, addr)
		}
		w = plain(t, i)
		for _, addr := range []uint64{end, end + n, end + size, base - n, base - size, 0, 1 << 39, 1 << 63, ones - n + 1} {
			h := with(sample(), 6, addr)
			h.Reservation = addr
			w.exits(h, api.Event{Access: asks(i), VA: addr, GPA: addr})
		}
		for b := uint64(1); b < n; b++ { // a byte further is no multiple of the size
			w.traps("P6.5", with(sample(), 6, end-n+b), oddCause(i), end-n+b)
		}
	}
}

// oddCause is the cause that the chapter names for an address that is no multiple of the size.
func oddCause(i api.Inst) uint64 {
	if asks(i) == api.Load {
		return 4
	}
	return 6
}

// P6.5: an address that is no multiple of the size traps ahead of all that its translation would come to.
func TestOddAddresses(t *testing.T) {
	for _, i := range accesses() {
		if i.Size == 1 {
			continue // every address is a multiple of 1
		}
		w := newGuest(t, 8)
		w.code(w.pa(code), i)
		for n := uint64(1); n < uint64(i.Size); n++ {
			for _, addr := range []uint64{gpa(data), 0, 1 << 39, 1 << 62, ones - uint64(i.Size) + 1} {
				w.traps("P6.5", with(at(gpa(code)), 6, addr+n), oddCause(i), addr+n)
				h := with(virtually(va(code)), 6, addr+n)
				w.traps("P6.5", h, oddCause(i), addr+n)
			}
		}
		w.holds("P6.5", w.entries(code, upper, middle, lower)...)
	}
}

// P6.5: a store-conditional with its reservation, without one, and with another's.
func TestStoreConditional(t *testing.T) {
	for _, n := range []int{4, 8} {
		i := api.Inst{Kind: api.KindSc, Rd: 5, Rs1: 6, Rs2: 7, Size: n}
		for _, reserved := range []bool{false, true} {
			for _, at := range []uint64{there, there + 4, there - 4, there + 8, 0, there | 1<<63, there + 1} {
				w := plain(t, i)
				w.set(there, 8, pattern)
				h := with(sample(), 6, there, 7, 0x1122_3344_5566_7788)
				h.Reserved, h.Reservation = reserved, at
				w.goes(i, h, there, there)
				if stored := w.get(there, n) == low(0x1122_3344_5566_7788, n); stored != (reserved && at == there) {
					t.Errorf("P6.5: sc stored: %v, with a reservation %v at %#x", stored, reserved, at)
				}
			}
		}
		w := plain(t, i) // where it traps or exits the reservation stays
		h := with(sample(), 6, end)
		h.Reservation = end
		w.exits(h, api.Event{Access: api.Store, VA: end, GPA: end})
		w.traps("P6.5", with(h, 6, there+2), 6, there+2)
	}
}

// P6.5: a reservation is at the guest-physical address, by whatever virtual one it was made.
func TestReservationsByTwoAddresses(t *testing.T) {
	w := newGuest(t, 8)
	w.own(lower, index(va(other), 0), pte(pageOf(data), own))
	w.code(w.pa(code), api.Inst{Kind: api.KindLr, Rd: 5, Rs1: 6, Size: 8})
	w.code(w.pa(code)+4, api.Inst{Kind: api.KindSc, Rd: 8, Rs1: 7, Rs2: 9, Size: 8})
	h := with(virtually(va(code)), 6, va(data)+16, 7, va(other)+16, 9, 99)
	h.Reserved = false
	g := behind(with(h, 5, 0), 4)
	g.Reserved, g.Reservation = true, gpa(data)+16
	w.retires(h, g)
	h, g = g, behind(with(g, 8, 0), 4)
	g.Reserved = false
	w.does("P6.5", h, g, wrote(gpa(data)+16))
	if v := w.get(w.pa(data)+16, 8); v != 99 {
		t.Errorf("P6.5: sc left %d", v)
	}
	h.X[7] = va(other) + 24
	g = behind(with(h, 8, 1), 4)
	g.Reserved = false
	w.retires(h, g)
}

// P6.5: other instructions leave a reservation as it is.
func TestReservationsStay(t *testing.T) {
	for _, i := range accesses() {
		if i.Kind == api.KindLr || i.Kind == api.KindSc {
			continue
		}
		w := plain(t, i)
		for _, reserved := range []bool{false, true} {
			h := with(sample(), 6, there)
			h.Reserved, h.Reservation = reserved, there
			if g, _ := w.step(h, now); g.Reserved != reserved || g.Reservation != there {
				t.Errorf("P6.5: %+v has turned a reservation", i)
			}
		}
	}
}
