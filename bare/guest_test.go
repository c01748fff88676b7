package bare_test

import (
	"math/rand"

	"citadel/api"
)

// Where a guest by chance has what: its code in page 0, its own tables in page 1, its queues and data in page 2.
const (
	handlerAt = base + 0x20
	ownRoot   = base + pageSize
	dataAt    = base + 2*pageSize
	alias     = 1 << 32 // by its own tables: what stands from 0 on
	endOfCode = base + 0xff0
)

// presets are numbers that its registers hold: addresses, by which compressed instructions come to devices too.
var presets = []struct {
	reg int
	v   uint64
}{
	{2, api.PciBase}, {8, intcLets}, {9, bar(1)}, {14, dataAt}, {15, bar(0)}, {20, api.UartBase}, {21, api.IntcBase}, {22, api.PciBase},
	{19, endOfCode}, {29, base}, {23, bar(0)}, {24, api.ClockBase}, {25, dataAt}, {26, 0x60000000}, {27, bar(1)}, {28, alias + api.UartBase}, {13, alias - 1<<30},
}

// reg is one that no preset stands in, mostly.
func reg(r *rand.Rand) int { return some(r, 0, 1, 3, 4, 5, 6, 7, 10, 11, 12, 16, 17, 18) }

// value is a number that may be stored.
func value(r *rand.Rand) uint64 {
	return some(r, 0, 1, 2, 3, 4, 6, 8, 16, 0x80, 0xff, 0x222, 1<<32-1, ones, uint64(1)<<r.Intn(64), r.Uint64())
}

// handler takes a trap: an interrupt is claimed, and let no more; of all else the instruction is
// passed by. What has left the code begins it again, and so does a user that calls.
func handler(again uint64) []api.Inst {
	get := func(rd, csr int) api.Inst { return api.Inst{Kind: api.KindCsr, Fn: 2, Rd: rd, Imm: csr} }
	put := func(csr, rs int) api.Inst { return api.Inst{Kind: api.KindCsr, Fn: 1, Rs1: rs, Imm: csr} }
	sret := one(api.Inst{Kind: api.KindSret})
	anew := join(li(30, again), one(put(sepc, 30)), li(30, 0x100), one(api.Inst{Kind: api.KindCsr, Fn: 2, Rs1: 30, Imm: sstatus}), sret)
	pass := join(
		one(get(30, sepc)), one(api.Inst{Kind: api.KindAluImm, Fn: api.Add, Rd: 30, Rs1: 30, Imm: 4}), one(put(sepc, 30)),
		one(api.Inst{Kind: api.KindBranch, Fn: api.Bltu, Rs1: 30, Rs2: 29, Imm: 4 * 6}), one(api.Inst{Kind: api.KindBranch, Fn: api.Bgeu, Rs1: 30, Rs2: 19, Imm: 4 * 5}),
		li(31, 8), one(get(30, scause)), one(api.Inst{Kind: api.KindBranch, Fn: api.Beq, Rs1: 30, Rs2: 31, Imm: 8}), sret, anew)
	taken := join(one(put(sie, 0)), one(api.Inst{Kind: api.KindLui, Rd: 30, Imm: 0xc002000}), one(api.Inst{Kind: api.KindLoad, Size: 4, Signed: true, Rd: 31, Rs1: 30}), sret)
	return join(
		one(get(30, scause)), one(api.Inst{Kind: api.KindBranch, Fn: api.Blt, Rs1: 30, Imm: 4 * (1 + len(pass))}), pass, taken)
}

// entry are instructions by which each virtual hart begins.
func entry() []api.Inst {
	list := csrw(stvec, handlerAt)
	for _, p := range presets {
		list = join(list, li(p.reg, p.v))
	}
	return join(list, csrw(sie, 0x222), csrw(sstatus, 2))
}

// access is a load or a store by a preset.
func access(r *rand.Rand) []api.Inst {
	at := some(r, 20, 20, 21, 22, 23, 23, 24, 25, 25, 26, 27, 27, 28, 13)
	size := some(r, 1, 2, 4, 8)
	off := r.Intn(512) / size * size
	switch at {
	case 20, 28:
		size, off = some(r, 1, 1, 1, 1, size), r.Intn(9)
	case 21, 24:
		size, off = some(r, 4, 4, 4, size), 4*r.Intn(4)
	case 22:
		off = some(r, off%256, 4, 0x10)
	case 23, 27:
		size, off = some(r, 4, 4, 8, size), some(r, 4*r.Intn(0x80), 0x18, noticeReg, statusReg, readyReg, 0x60)
	}
	if r.Intn(2) == 0 {
		return one(api.Inst{Kind: api.KindLoad, Size: size, Signed: size == 8 || r.Intn(2) == 0, Rd: reg(r), Rs1: at, Imm: off})
	}
	rs := some(r, 6, 7, 10, 11, 12)
	return join(li(rs, value(r)), one(api.Inst{Kind: api.KindStore, Size: size, Rs1: at, Rs2: rs, Imm: off}))
}

// atomic is one in memory, or rarely at a device.
func atomic(r *rand.Rand) []api.Inst {
	i := api.Inst{Kind: some(r, api.KindLr, api.KindSc, api.KindAmo), Size: some(r, 4, 8), Rd: reg(r), Rs1: some(r, 25, 25, 25, 25, 25, 23, 26)}
	if i.Kind != api.KindLr {
		i.Rs2 = reg(r)
	}
	if i.Kind == api.KindAmo {
		i.Fn = 1 + r.Intn(9)
	}
	if i.Kind == api.KindLr && r.Intn(2) == 0 {
		return join(one(i), one(nop), one(nop), one(api.Inst{Kind: api.KindSc, Size: i.Size, Rd: 4, Rs1: i.Rs1, Rs2: 6}))
	}
	return one(i)
}

// call is one of a supervisor's; of those that end something few.
func call(r *rand.Rand) []api.Inst {
	switch r.Intn(60) {
	case 0:
		return ecall(harts, 1, value(r), value(r), 0)
	case 1, 2:
		return ecall(resets, some[uint64](r, 0, 0, 0, 1), value(r), 0, 0)
	}
	kind := some(r, asks, puts, puts, timer, wakes, wakes, harts, harts, r.Uint64())
	fn := some[uint64](r, 0, 0, 0, 2, 3)
	if kind == harts && fn == 0 {
		return ecall(harts, 0, uint64(r.Intn(4)), base+0x400, value(r))
	}
	return ecall(kind, fn, some(r, uint64(r.Intn(4)), value(r)), some(r, uint64(r.Intn(3)), ones), value(r))
}

// sleep takes no interrupts but is woken by them, sets the timer a little ahead, and waits.
func sleep(r *rand.Rand) []api.Inst {
	return join(
		csrw(sstatus, 0), csrw(sie, some[uint64](r, 0x20, 0x222, 0x22)), li(17, timer), li(16, 0), one(api.Inst{Kind: api.KindCsr, Fn: 2, Rd: 10, Imm: timeCSR}),
		one(api.Inst{Kind: api.KindAluImm, Fn: api.Add, Rd: 10, Rs1: 10, Imm: r.Intn(4)}), one(api.Inst{Kind: api.KindEcall}), one(wfi))
}

// state writes a CSR: interrupts, the own tables, what a return comes to.
func state(r *rand.Rand) []api.Inst {
	switch r.Intn(8) {
	case 0, 1:
		return csrw(sie, some[uint64](r, 0x222, 0x20, 0x200, 2, 0))
	case 2:
		return csrw(sstatus, some[uint64](r, 0, 2, 2, 0x20, 1<<18|2, 1<<19))
	case 3, 4:
		return csrw(satp, some[uint64](r, 0, 8<<60|ownRoot>>12))
	case 5:
		return csrw(sip, 2)
	}
	// From here on as a user.
	return join(one(api.Inst{Kind: api.KindAuipc, Rd: 30}), one(api.Inst{Kind: api.KindAluImm, Fn: api.Add, Rd: 30, Rs1: 30, Imm: 4 * (3 + len(li(5, 0x22)) + 2)}),
		one(api.Inst{Kind: api.KindCsr, Fn: 1, Rs1: 30, Imm: sepc}), csrw(sstatus, 0x22), one(api.Inst{Kind: api.KindSret}))
}

// piece is a piece of a guest's code by chance.
func piece(r *rand.Rand) []byte {
	switch x := r.Intn(100); {
	case x < 50:
		return image(access(r))
	case x < 60:
		return image(atomic(r))
	case x < 72:
		return image(call(r))
	case x < 75:
		return image(sleep(r))
	case x < 83:
		return image(state(r))
	case x < 91: // two compressed loads or stores
		var b []byte
		for range 2 {
			c := some[uint16](r, 0x4000, 0x6000, 0xc000, 0xe000, 0x4002, 0x6002, 0xc002, 0xe002) | uint16(r.Intn(1<<13))&0x187c
			c |= uint16(some(r, 0, 1, 6, 7)) << 7
			b = append(b, byte(c), byte(c>>8))
		}
		return b
	case x < 92:
		slot, q := r.Intn(2), r.Intn(2)
		return image(begins(slot, q, dataAt), poke(bar(slot)+noticeReg, 4, uint64(q)))
	case x < 93:
		return image(one(api.Inst{Kind: api.KindJalr, Rd: 1, Rs1: some(r, 9, 22, 26, 28), Imm: 2 * r.Intn(3)}))
	case x < 95:
		return image(one(some(r, api.Inst{Kind: api.KindEbreak}, api.Inst{Kind: api.KindEcall}, api.Inst{Kind: api.KindFence}, api.Inst{Kind: api.KindSfence})))
	case x < 97:
		return lay(nil, 0, 4, r.Uint64())
	}
	return image(one(api.Inst{Kind: api.KindJal, Imm: some(r, 4, 8, 12)}))
}

// guestImage is that of a guest by chance.
func guestImage(r *rand.Rand, vcpus int) []byte {
	start := entry()
	var first []api.Inst
	for i := range vcpus {
		if i > 0 {
			first = join(first, ecall(harts, 0, uint64(i), base+0x400, uint64(i)))
		}
	}
	body := uint64(base + 0x400 + 4*len(start))
	b := image(one(api.Inst{Kind: api.KindJal, Imm: 0x180}))
	b = place(b, handlerAt-base, image(handler(body)))
	b = place(b, 0x180, image(finds(2), first, one(api.Inst{Kind: api.KindJal, Imm: 0x400 - 0x180 - 4*(len(finds(2))+len(first))})))
	if len(b) > 0x400 {
		panic("no room for what comes first")
	}
	b = place(b, 0x400, image(start))
	at := int(body - base)
	for at < 0xfc0 {
		p := piece(r)
		if at+len(p) > 0xff0 {
			continue
		}
		b = place(b, at, p)
		at += len(p)
	}
	b = place(b, at, image(one(api.Inst{Kind: api.KindJal, Imm: int(body-base) - at})))
	const leaf = api.PteV | api.PteR | api.PteW | api.PteX | api.PteA | api.PteD
	for i, e := range []uint64{leaf, 0x40000<<10 | leaf, 0x80000<<10 | leaf, 0x60000<<10 | api.PteV, leaf} {
		b = lay(b, pageSize+8*i, 8, e)
	}
	return sends(b, 2*pageSize, append(make([]byte, 12), frames[0]...), []byte("to a console"), make([]byte, 20))
}
