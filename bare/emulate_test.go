package bare_test

import (
	"bytes"
	"testing"

	"citadel/api"
)

// newGuest is a pair of one virtual hart and two pages, with all devices, whose registers are found behind its first
// instructions; these it has made.
func newGuest(t *testing.T, list ...[]api.Inst) *pair {
	t.Helper()
	first := finds(4)
	p := newPair(t, api.GuestConf{Vcpus: 2, Pages: 2, Devs: []int{api.DevEngine, api.DevBlk, api.DevNet, api.DevConsole}, Disk: pattern(2*sector, 1), Image: image(first, join(list...))})
	p.runs(first)
	return p
}

// P19.2: a load that a device answers is emulated: extended by its size and sign, by any register; none but that, and
// PC, is turned.
func TestLoads(t *testing.T) {
	for _, x := range []struct {
		at        uint64
		size      int
		low, sign uint64
	}{
		{uartSCR, 1, 0x9c, ones - 0x63},
		{api.UartBase + 5, 1, 0x60, 0x60},
		{api.PciBase + 0x6000, 1, 0xff, ones},
		{api.PciBase + 0x6002, 2, 0xffff, ones},
		{api.PciBase, 2, 0x1af4, 0x1af4},
		{api.PciBase + 0x1000, 4, 0x10421af4, 0x10421af4},
		{api.PciBase + 0x7000, 4, 1<<32 - 1, ones},
		{bar(1) + 0x0c, 4, 0x554d4551, 0x554d4551},
		{bar(1) + 0x100, 4, 2, 2},
		{bar(0) + srcReg, 8, 0xfedcba9876543210, 0xfedcba9876543210},
		{bar(0) + srcReg + 4, 4, 0xfedcba98, 0xfffffffffedcba98},
	} {
		for _, signed := range []bool{true, false} {
			if x.size == 8 && !signed {
				continue
			}
			want := x.low
			if signed {
				want = x.sign
			}
			for _, reg := range []int{0, 1, 5, 31} {
				list := join(poke(uartSCR, 1, 0x9c), poke(bar(0)+srcReg, 8, 0xfedcba9876543210), li(7, 77))
				access := peek(reg, x.at, x.size, signed)
				p := newGuest(t, list, access)
				p.runs(join(list, access[:len(access)-1]))
				h := p.hart(0)
				if ev := p.m.Peek(0); ev != (api.Event{Kind: api.ExitFault, Access: api.Load, VA: x.at, GPA: x.at}) {
					t.Fatalf("P19.2: Peek = %+v", ev)
				}
				p.steps(0, 1)
				h.PC += 4
				if reg != 0 {
					h.X[reg] = want
				}
				if got := p.hart(0); got != h {
					t.Errorf("P19.2: a load of %d at %#x into register %d: %#x at %#x", x.size, x.at, reg, got.X[reg], got.PC)
				}
			}
		}
	}
}

// P19.2: a store that a device takes is emulated: its low bytes are written; no register but PC is turned.
func TestStores(t *testing.T) {
	for _, x := range []struct {
		at   uint64
		size int
		v    uint64
	}{
		{uartSCR, 1, 0x9c},
		{api.PciBase + 0x303c, 1, 0x21},
		{api.PciBase + 0x1004, 2, 6},
		{api.PciBase + 0x2010, 4, 0x50000000},
		{api.IntcBase + 0x1004, 4, 0xfffffffe},
		{bar(1) + statusReg, 4, 0x13},
		{bar(0) + dstReg, 8, 0x8182838485868788},
		{bar(0) + lenReg + 4, 4, 0x85868788},
	} {
		const more = 0x7f00000000000000
		v := x.v
		if x.size < 8 {
			v |= more
		}
		access := poke(x.at, x.size, v)
		back := peek(9, x.at, x.size, false)
		if x.size == 8 {
			back = peek(9, x.at, x.size, true)
		}
		p := newGuest(t, access, back)
		p.runs(access[:len(access)-1])
		h := p.hart(0)
		if ev := p.m.Peek(0); ev != (api.Event{Kind: api.ExitFault, Access: api.Store, VA: x.at, GPA: x.at}) {
			t.Fatalf("P19.2: Peek = %+v", ev)
		}
		p.steps(0, 1)
		h.PC += 4
		if p.hart(0) != h {
			t.Errorf("P19.2: a store of %d at %#x: %+v", x.size, x.at, p.hart(0))
		}
		p.runs(back)
		if got := p.hart(0).X[9]; got != x.v {
			t.Errorf("P19.2: a store of %d at %#x: %#x stands there", x.size, x.at, got)
		}
	}
}

// P19.2: what a device refuses, or stands nowhere, traps: 5 for a load, 7 for a store, with its address.
func TestRefused(t *testing.T) {
	for _, x := range []struct {
		at   uint64
		size int
	}{
		{0, 1}, {0x50000000, 4}, {base - 8, 8}, {base + 2*pageSize, 1}, {base + 2*pageSize, 8}, {ones - 7, 8}, {1<<63 + api.UartBase, 1}, {1<<32 + api.UartBase, 1},
		{api.UartBase, 2}, {api.UartBase + 4, 4}, {api.UartBase, 8}, {api.UartBase + 8, 1}, {api.ClockBase + 8, 4}, {api.ClockBase, 8},
		{api.IntcBase + 4, 4}, {api.IntcBase, 8}, {api.PciBase + 0x100, 4}, {api.PciBase, 8}, {bar(1) + 1, 1}, {bar(1), 8}, {bar(0) + 0x38, 8}, {bar(0) + 2, 2}, {bar(4), 4},
	} {
		for _, store := range []bool{false, true} {
			access, cause, kind := peek(9, x.at, x.size, true), uint64(5), api.Load
			if store {
				access, cause, kind = poke(x.at, x.size, 0x55), 7, api.Store
			}
			handler := join(csrw(stvec, base+0x1801), li(9, 99))
			p := newGuest(t, handler, access)
			p.runs(join(handler, access[:len(access)-1]))
			h := p.hart(0)
			if ev := p.m.Peek(0); ev != (api.Event{Kind: api.ExitFault, Access: kind, VA: x.at, GPA: x.at}) {
				t.Fatalf("P19.2: Peek = %+v", ev)
			}
			p.steps(0, 1)
			h.Sepc, h.Scause, h.Stval, h.Spp, h.PC = h.PC, cause, x.at, true, base+0x1800
			if got := p.hart(0); got != h {
				t.Errorf("P19.2: size %d at %#x, store %v: %+v", x.size, x.at, store, got)
			}
		}
	}
}

// P19.2: an atomic where a device stands traps, since no load and no store is planned: 7, but 5 for a load-reserved;
// nothing comes to the device.
func TestAtomicsRefused(t *testing.T) {
	for _, x := range []struct {
		i     api.Inst
		cause uint64
	}{
		{api.Inst{Kind: api.KindLr, Size: 4, Rd: 7, Rs1: 5}, 5},
		{api.Inst{Kind: api.KindSc, Size: 8, Rd: 7, Rs1: 5}, 7},
		{api.Inst{Kind: api.KindAmo, Fn: api.AmoSwap, Size: 4, Rd: 7, Rs1: 5}, 7},
	} {
		for _, at := range []uint64{bar(0), api.IntcBase + 0x1000, 0x60000000} {
			list := join(li(5, at), li(7, 1))
			p := newGuest(t, list, one(x.i))
			p.runs(list)
			p.steps(0, 1)
			if h := p.hart(0); h.Scause != x.cause || h.Stval != at || h.X[7] != 1 || h.PC != 0 {
				t.Errorf("P19.2: %+v at %#x: %+v", x.i, at, h)
			}
			if v, _ := p.c.b.Read(p.c.mem, at, 4, 0); v != 0 {
				t.Errorf("P19.2: %+v at %#x is written", x.i, at)
			}
		}
	}
}

// P19.2: compressed loads and stores are emulated too, and are two bytes long.
func TestCompressed(t *testing.T) {
	list := li(8, api.IntcBase+0x1000) // x8
	b := image(list, li(9, 0x123456))
	at := len(b)
	b = lay(b, at, 2, 0xc004)   // c.sw x9, 0(x8)
	b = lay(b, at+2, 2, 0x4008) // c.lw x10, 0(x8)
	b = lay(b, at+4, 2, 0x600c) // c.ld x11, 0(x8)
	p := newPair(t, api.GuestConf{Vcpus: 1, Pages: 1, Image: b})
	p.until(0, base+uint64(at))
	p.steps(0, 1)
	if h := p.hart(0); h.PC != base+uint64(at)+2 {
		t.Errorf("P19.2: %+v", h)
	}
	p.steps(0, 1)
	if h := p.hart(0); h.PC != base+uint64(at)+4 || h.X[10] != 0x123456 {
		t.Errorf("P19.2: %+v", h)
	}
	p.steps(0, 1)
	if h := p.hart(0); h.PC != 0 || h.Scause != 5 || h.Sepc != base+uint64(at)+4 || h.Stval != api.IntcBase+0x1000 {
		t.Errorf("P19.2: %+v", h)
	}
}

// P19.2: a fetch from where no memory is traps with 1, though a device stands there; the second half too.
func TestFetchRefused(t *testing.T) {
	for _, at := range []uint64{0, 2, api.UartBase, bar(1), base + 2*pageSize, base - 2, ones - 1} {
		list := li(5, at)
		p := newGuest(t, list, one(api.Inst{Kind: api.KindJalr, Rs1: 5}), nil)
		p.runs(list)
		p.steps(0, 1)
		if ev := p.m.Peek(0); ev != (api.Event{Kind: api.ExitFault, Access: api.Fetch, VA: at, GPA: at}) {
			t.Fatalf("P19.2: Peek = %+v", ev)
		}
		p.steps(0, 1)
		if h := p.hart(0); h.Scause != 1 || h.Stval != at || h.Sepc != at || h.PC != 0 {
			t.Errorf("P19.2: %#x: %+v", at, h)
		}
	}
	const last = base + pageSize - 2
	list := li(5, last)
	b := place(image(list, one(api.Inst{Kind: api.KindJalr, Rs1: 5})), pageSize-2, []byte{0x83, 0x20})
	p := newPair(t, api.GuestConf{Vcpus: 1, Pages: 1, Image: b})
	p.runs(list)
	p.steps(0, 2)
	if h := p.hart(0); h.Scause != 1 || h.Stval != last+2 || h.Sepc != last {
		t.Errorf("P19.2: %+v", h)
	}
}

// ownTables is the page of a memory where the guest's own tables begin, of the levels 2, 1 and 0.
const ownTables = 4

// tables lay the guest's own: virtual addresses from RamBase on are themselves, for a supervisor; those from 0x40000000
// on are the memory's first pages; behind these one is the UART's, one is slot 0's, and one is where nobody is.
func tables(b []byte, user bool) []byte {
	bits := uint64(api.PteV | api.PteR | api.PteW | api.PteX | api.PteA | api.PteD)
	if user {
		bits |= api.PteU
	}
	frame := func(i uint64) uint64 { return base/pageSize + i }
	b = lay(b, ownTables*pageSize+8, 8, frame(ownTables+1)<<10|api.PteV)
	b = lay(b, (ownTables+1)*pageSize, 8, frame(ownTables+2)<<10|api.PteV)
	for i, page := range []uint64{frame(0), frame(1), frame(2), frame(3), api.UartBase / pageSize, bar(0) / pageSize, 0x60000} {
		b = lay(b, (ownTables+2)*pageSize+8*i, 8, page<<10|bits)
	}
	return identity(b, ownTables)
}

// identity has the addresses from RamBase on be themselves, by one leaf of a table of level 2 in a page.
func identity(b []byte, table int) []byte {
	return lay(b, table*pageSize+16, 8, base>>12<<10|api.PteV|api.PteR|api.PteW|api.PteX|api.PteA|api.PteD)
}

// P19.2: the board is asked at the guest-physical address, while a trap tells the virtual one. As a supervisor, and as a
// user.
func TestOwnTables(t *testing.T) {
	const virtual = 0x40000000
	for _, user := range []bool{false, true} {
		list := join(finds(1), csrw(satp, 8<<60|(base/pageSize+ownTables)), li(5, virtual+0x800))
		into := one(api.Inst{Kind: api.KindJalr, Rs1: 5})
		if user {
			list = join(list, csrw(sepc, virtual+0x800))
			into = one(api.Inst{Kind: api.KindSret})
		}
		body := join(
			poke(virtual+4*pageSize+7, 1, 0xab), peek(7, virtual+4*pageSize+7, 1, false),
			poke(virtual+5*pageSize+dstReg, 8, 0x123456789abcdef0), peek(8, virtual+5*pageSize+dstReg, 8, true),
			peek(9, virtual+6*pageSize+4, 4, false))
		b := tables(place(image(list, into), 0x800, image(body)), user)
		p := newPair(t, api.GuestConf{Vcpus: 1, Pages: 7, Devs: []int{api.DevEngine}, Image: b})
		p.until(0, virtual+0x800)
		if p.hart(0).User != user {
			t.Fatalf("user %v", p.hart(0).User)
		}
		p.runs(body[:len(body)-1])
		if h := p.hart(0); h.X[7] != 0xab || h.X[8] != 0x123456789abcdef0 {
			t.Errorf("P19.2: %#x, %#x", h.X[7], h.X[8])
		}
		if ev := p.m.Peek(0); ev != (api.Event{Kind: api.ExitFault, Access: api.Load, VA: virtual + 6*pageSize + 4, GPA: 0x60000004}) {
			t.Errorf("P19.2: Peek = %+v", ev)
		}
		p.steps(0, 1)
		if h := p.hart(0); h.Scause != 5 || h.Stval != virtual+6*pageSize+4 || h.Spp == user || h.User || h.PC != 0 {
			t.Errorf("P19.2: %+v", h)
		}
	}
}

// P19.2: an access whose own tables lie where no memory is, even where a device is, traps as that access.
func TestWalks(t *testing.T) {
	for _, at := range []uint64{0x60000000, bar(0), api.PciBase} {
		for _, access := range [][]api.Inst{peek(9, 0x12340, 8, true), poke(0x12340, 8, 5)} {
			first := finds(1)
			list := join(first, csrw(satp, 8<<60|(base/pageSize+1)))
			b := image(list, access)
			b = identity(b, 1)
			b = lay(b, pageSize, 8, at>>12<<10|api.PteV)
			p := newPair(t, api.GuestConf{Vcpus: 1, Pages: 2, Devs: []int{api.DevEngine}, Image: b})
			p.runs(join(list, access[:len(access)-1]))
			kind, cause := api.Load, uint64(5)
			if access[len(access)-1].Kind == api.KindStore {
				kind, cause = api.Store, 7
			}
			if ev := p.m.Peek(0); ev != (api.Event{Kind: api.ExitFault, Access: kind, VA: 0x12340, GPA: at, Walk: true}) {
				t.Errorf("P19.2: Peek = %+v", ev)
			}
			p.steps(0, 1)
			if h := p.hart(0); h.Scause != cause || h.Stval != 0x12340 || h.X[9] != 0 {
				t.Errorf("P19.2: %+v", h)
			}
		}
	}
}

// P19.2: an access that is emulated takes nobody's reservation, its own neither.
func TestEmulatedReserved(t *testing.T) {
	list := join(li(8, base+0x1000), one(api.Inst{Kind: api.KindLr, Size: 8, Rd: 9, Rs1: 8}), poke(uartSCR, 1, 3), peek(7, uartSCR, 1, false))
	p := newGuest(t, list)
	p.runs(list)
	if h := p.hart(0); !h.Reserved || h.Reservation != base+0x1000 || h.X[7] != 3 {
		t.Errorf("P19.2: %+v", h)
	}
}

// P19.2: boards get the machine's memory as theirs: a disk answers a request that lies there.
func TestDiskInMemory(t *testing.T) {
	const at = base + pageSize
	list := join(begins(1, 0, at), poke(bar(1)+noticeReg, 4, 0))
	p := newGuest(t, list)
	b := request(p.m.Memory(1), at)
	p = newPair(t, api.GuestConf{Vcpus: 1, Pages: 2, Devs: []int{api.DevEngine, api.DevBlk}, Disk: pattern(2*sector, 1), Image: place(image(finds(2), list), pageSize, b)})
	p.runs(join(finds(2), list))
	m := p.m.Memory(1)
	if !bytes.Equal(m[0x600:0x800], pattern(2*sector, 1)[sector:]) || m[0x800] != 0 || m[512+2] != 1 {
		t.Error("P19.2: the sector is not where the guest wants it")
	}
}

// request lays into a page at an address a queue's chain that asks a disk for sector 1, to be written at 0x600 of it.
func request(b []byte, at uint64) []byte {
	b = lay(b, 0x400, 8, 0)
	b = lay(b, 0x408, 8, 1)
	b = lay(b, 0, 8, at+0x400)
	b = lay(b, 8, 8, 1<<48|1<<32|16)
	b = lay(b, 16, 8, at+0x600)
	b = lay(b, 24, 8, 2<<32|513)
	return lay(b, 256+2, 2, 1)
}
