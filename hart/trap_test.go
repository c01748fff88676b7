package hart_test

import (
	"testing"

	"citadel/api"
	"citadel/hart"
)

// P6.2: what a trap turns, and that all else stays; harts that are not in order are brought so first.
func TestTrap(t *testing.T) {
	causes := []uint64{0, 1, 2, 15, 1<<62 | 9, 1<<63 - 1, 1 << 63, 1<<63 | 1, 1<<63 | 5, 1<<63 | 9, 1<<63 | 1<<62 | 3, ones}
	for bits := range 1 << 7 {
		h := sample()
		h.User, h.On, h.Spie, h.Spp = bits&1 != 0, bits&2 != 0, bits&4 != 0, bits&8 != 0
		h.Sum, h.Mxr, h.Reserved = bits&16 != 0, bits&32 != 0, bits&64 != 0
		h.X[0], h.Sie, h.Sip = 9, ones, ones
		for _, stvec := range []uint64{0, 1, 2, 3, 0x1234_5674, 0x1234_5675, 0x1234_5676, 0x1234_5677, ones - 3, ones - 2, ones} {
			for _, pc := range []uint64{0, 1, 2, 3, start + 1, ones} {
				h.Stvec, h.PC = stvec, pc
				for _, cause := range causes {
					want := trapped(h, cause, cause^0x5a5a)
					if g := hart.Trap(h, cause, cause^0x5a5a); g != want {
						t.Fatalf("P6.2: Trap(%+v, %#x): %s", h, cause, unlike(g, want))
					}
				}
			}
		}
	}
}

// P6.2: some traps written out, so that nothing hangs on how trapped reads the chapter.
func TestTrapWrittenOut(t *testing.T) {
	h := api.Hart{PC: 0x1235, User: true, On: true, Spp: true, Stvec: 0x1003, Sepc: 7, Scause: 8, Stval: 9, Sie: ones, Sip: ones, Reserved: true, Reservation: 3, Satp: 5 << 60}
	h.X[0], h.X[31] = 1, 2
	want := api.Hart{PC: 0x1000, Sepc: 0x1234, Scause: 2, Stval: 7, Spie: true, Stvec: 0x1001, Sie: 0x222, Sip: 0x222, Reserved: true, Reservation: 3, Satp: 5 << 60}
	want.X[31] = 2
	if g := hart.Trap(h, 2, 7); g != want {
		t.Errorf("P6.2: %s", unlike(g, want))
	}
	want.PC, want.Scause, want.Stval = 0x1000+36, 1<<63|9, 0
	if g := hart.Trap(h, 1<<63|9, 0); g != want {
		t.Errorf("P6.2: %s", unlike(g, want))
	}
	want.PC, want.Scause = 0x1000-4, ones // four times 2^63 - 1, modulo 2^64
	if g := hart.Trap(h, ones, 0); g != want {
		t.Errorf("P6.2: %s", unlike(g, want))
	}
	h.User, h.On, h.Stvec = false, false, 0x1002
	want.Stvec, want.PC, want.Spp, want.Spie = 0x1000, 0x1000, true, false
	if g := hart.Trap(h, ones, 0); g != want {
		t.Errorf("P6.2: %s", unlike(g, want))
	}
}

// P6.4, 1: each interrupt alone and all sets of them, let and not let, as user and as supervisor, vectored and not.
func TestInterrupts(t *testing.T) {
	w := plain(t, api.Inst{Kind: api.KindAluImm, Fn: api.Add, Rd: 1, Imm: 5})
	sets := func(i int) uint64 { return uint64(i&1<<1 | i>>1&1<<5 | i>>2&1<<9) }
	for sip := range 8 {
		for sie := range 8 {
			for bits := range 8 {
				h := sample()
				h.Sip, h.Sie = sets(sip), sets(sie)
				h.User, h.On, h.Stvec = bits&1 != 0, bits&2 != 0, 0x7000+uint64(bits>>2)
				both, cause := h.Sip&h.Sie, uint64(0)
				switch {
				case both&(1<<9) != 0:
					cause = 1<<63 + 9
				case both&(1<<1) != 0:
					cause = 1<<63 + 1
				case both&(1<<5) != 0:
					cause = 1<<63 + 5
				}
				if cause != 0 && (h.User || h.On) {
					w.does("P6.4", h, trapped(h, cause, 0), api.Event{Kind: api.Taken})
				} else {
					w.does("P6.4", h, behind(with(h, 1, 5), 4), api.Event{})
				}
			}
		}
	}
}

// P6.4, 1: where a vectored interrupt goes, written out.
func TestVectored(t *testing.T) {
	w := plain(t, api.Inst{Kind: api.KindFence})
	for n, to := range map[uint64]uint64{1: 0x7004, 5: 0x7014, 9: 0x7024} {
		h := sample()
		h.On, h.Sip, h.Stvec = true, 1<<n, 0x7001
		if g, _ := w.step(h, now); g.PC != to || g.Scause != 1<<63|n || g.Sepc != start || g.On || !g.Spie {
			t.Errorf("P6.4: the interrupt %d: %+v", n, g)
		}
	}
}

// P6.4, 1: bits that are no interrupt's are none, and an interrupt comes ahead of what the instruction would do.
func TestInterruptsAheadOfAll(t *testing.T) {
	w := newWorld(t, base, 1, 1)
	h := sample()
	h.On, h.Sie, h.Sip = true, ones&^0x222, ones&^0x222
	w.traps("P6.4", h, 2, 0) // no instruction stands at start, and nothing is taken ahead of it
	h.Sie, h.Sip = ones, ones
	for _, pc := range []uint64{start, start + 1, 0, ones, base + size - 2} {
		h.PC = pc
		w.does("P6.4", h, trapped(h, 1<<63|9, 0), api.Event{Kind: api.Taken})
	}
	h.Satp = 5 << 60
	w.does("P6.4", h, trapped(h, 1<<63|9, 0), api.Event{Kind: api.Taken})
	v := newGuest(t, 4)
	h.Satp, h.PC = 0, gpa(code)
	v.does("P6.4", h, trapped(h, 1<<63|9, 0), api.Event{Kind: api.Taken})
	v.holds("P6.4")
}

// Step brings the hart in order first: what a step of it comes to is what a step of the one in order does.
func TestStepOfAHartOutOfOrder(t *testing.T) {
	for _, i := range []api.Inst{
		{Kind: api.KindAlu, Fn: api.Add, Rd: 1, Rs1: 0, Rs2: 2}, // X[0] is 0, whatever was handed in
		{Kind: api.KindAuipc, Rd: 1},
		{Kind: api.KindJal, Rd: 1, Imm: 8},
		{Kind: api.KindSret},
		{Kind: api.KindEcall},
		{Kind: api.KindEbreak},
		{Kind: api.KindWfi},
		{Kind: api.KindCsr, Fn: 2, Rd: 1, Imm: 0x104},
		{Kind: api.KindCsr, Fn: 2, Rd: 1, Imm: 0x105},
		{Kind: api.KindCsr, Fn: 2, Rd: 1, Imm: 0x141},
		{Kind: api.KindCsr, Fn: 2, Rd: 1, Imm: 0x144},
		{Kind: api.KindStore, Size: 8},
		{Kind: api.KindLoad, Size: 8, Signed: true},
	} {
		h := sample()
		h.X[0], h.Sepc, h.Stvec, h.Sie, h.Sip = 77, 0x1001, 0x7003, ones, ones
		h.PC = start + 1
		want, ev := plain(t, i).step(ordered(h), now)
		plain(t, i).does("P6.4", h, want, ev)
		if want.X[0] != 0 {
			t.Errorf("P6.6: X[0] = %d", want.X[0])
		}
	}
	w := newWorld(t, base, 1, 1)
	h := sample()
	h.X[0], h.Sepc, h.Stvec, h.Sie, h.Sip, h.PC = 77, 0x1001, 0x7003, ones, ones, 0x99
	w.exits(h, api.Event{Access: api.Fetch, VA: 0x98, GPA: 0x98})
}
