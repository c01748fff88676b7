package hart_test

import (
	"slices"

	"citadel/api"
	"citadel/hart"
	"citadel/inst"
	"citadel/page"
	"citadel/ram"
	"citadel/word"
)

// chapter is P6.4 and P6.5 read out word by word, over a memory and a TLB that are a copy.
type chapter struct {
	m    *ram.RAM
	list []api.Trans
	room int
	root uint64
	vmid int
}

// over is how a step is left that does not come to its instruction's end.
type over struct {
	h  api.Hart
	ev api.Event
}

// step is P6.4.
func (c *chapter) step(h api.Hart, now uint64) (g api.Hart, ev api.Event) {
	defer func() {
		switch o := recover().(type) {
		case nil:
		case over:
			g, ev = o.h, o.ev
		default:
			panic(o)
		}
	}()
	h = ordered(h)
	for _, n := range []int{9, 1, 5} {
		if (h.Sip&h.Sie)>>n&1 == 1 && (h.User || h.On) {
			return trapped(h, 1<<63+uint64(n), 0), api.Event{Kind: api.Taken}
		}
	}
	w, long := c.half(h, h.PC), uint64(2)
	bits := uint64(w)
	if w%4 == 3 {
		w |= c.half(h, h.PC+2) << 16
		bits, long = uint64(w), 4
	} else {
		w, _ = inst.Expand(uint16(w)) // 0, which is no instruction either, where there is none
	}
	i, ok := inst.Decode(w)
	illegal(h, bits, !ok)
	return c.do(h, i, bits, long, now)
}

// stop leaves the step by a trap.
func stop(h api.Hart, cause, value uint64) {
	panic(over{trapped(h, cause, value), api.Event{Kind: api.Trapped}})
}

// illegal leaves the step by that trap, if it is so.
func illegal(h api.Hart, bits uint64, so bool) {
	if so {
		stop(h, 2, bits)
	}
}

// half are two bytes of an instruction.
func (c *chapter) half(h api.Hart, addr uint64) uint32 {
	v, _ := c.m.Read(c.translate(h, addr, api.Fetch, 2).PA, 2)
	return uint32(v)
}

// do is P6.5's table.
func (c *chapter) do(h api.Hart, i api.Inst, bits, long, now uint64) (api.Hart, api.Event) {
	g, x, y, imm := behind(h, long), h.X[i.Rs1], h.X[i.Rs2], uint64(i.Imm)
	set := func(v uint64) api.Hart { return with(g, uint64(i.Rd), v) }
	switch i.Kind {
	case api.KindLui:
		return set(imm), api.Event{}
	case api.KindAuipc:
		return set(h.PC + imm), api.Event{}
	case api.KindJal:
		g = set(h.PC + long)
		g.PC = h.PC + imm
	case api.KindJalr:
		g = set(h.PC + long)
		g.PC = (x + imm) / 2 * 2
	case api.KindBranch:
		if word.Branch(i.Fn, x, y) {
			g.PC = h.PC + imm
		}
	case api.KindAlu:
		return set(word.Alu(i.Fn, x, y)), api.Event{}
	case api.KindAluImm:
		return set(word.Alu(i.Fn, x, imm)), api.Event{}
	case api.KindFence:
	case api.KindLoad, api.KindStore:
		return c.access(h, i, x+imm, long)
	case api.KindLr, api.KindSc, api.KindAmo:
		return c.access(h, i, x, long)
	case api.KindCsr:
		return c.csr(h, i, x, bits, now), api.Event{}
	case api.KindCsrImm:
		return c.csr(h, i, uint64(i.Rs1), bits, now), api.Event{}
	default:
		return c.system(h, g, i, bits)
	}
	return g, api.Event{}
}

// access are the rows that go to the memory.
func (c *chapter) access(h api.Hart, i api.Inst, addr, long uint64) (api.Hart, api.Event) {
	if addr%uint64(i.Size) != 0 {
		stop(h, oddCause(i), addr)
	}
	p := c.translate(h, addr, asks(i), i.Size)
	old, _ := c.m.Read(p.PA, i.Size)
	g, ev, v := comesTo(i, h, p.GPA, old)
	g.PC = h.PC + long
	if ev.Wrote {
		c.m.Write(p.PA, i.Size, v)
	}
	return g, ev
}

// csr are the rows of CSRs. (Read and Write have tests of their own.)
func (c *chapter) csr(h api.Hart, i api.Inst, x, bits, now uint64) api.Hart {
	old, ok := hart.Read(h, i.Imm, now)
	illegal(h, bits, !ok)
	g := behind(h, 4)
	if i.Fn == 1 || i.Rs1 != 0 {
		g, ok = hart.Write(g, i.Imm, [...]uint64{1: x, 2: old | x, 3: old & (ones - x)}[i.Fn])
		illegal(h, bits, !ok)
	}
	return with(g, uint64(i.Rd), old)
}

// system are the rows that are left.
func (c *chapter) system(h, g api.Hart, i api.Inst, bits uint64) (api.Hart, api.Event) {
	switch i.Kind {
	case api.KindEcall:
		if h.User {
			stop(h, 8, 0)
		}
		return h, api.Event{Kind: api.ExitCall}
	case api.KindEbreak:
		stop(h, 3, h.PC)
	}
	illegal(h, bits, h.User)
	switch i.Kind {
	case api.KindWfi:
		return g, api.Event{Kind: api.ExitWait}
	case api.KindSret:
		g.PC, g.User, g.On, g.Spie, g.Spp = h.Sepc, !h.Spp, h.Spie, true, false
	}
	return g, api.Event{}
}

// translate is how an address is translated; it leaves the step where that faults.
func (c *chapter) translate(h api.Hart, va uint64, access, n int) api.Place {
	p := c.place(h, va, access)
	if p.Fault == api.FaultPage {
		stop(h, pageCauses[access], va)
	}
	if p.Fault != api.FaultNone || !c.m.Has(p.PA, n) {
		panic(over{h, api.Event{Kind: api.ExitFault, Access: access, VA: va, GPA: p.GPA, Walk: p.Walk}})
	}
	return p
}

// place is both stages, the second by the TLB.
func (c *chapter) place(h api.Hart, va uint64, access int) api.Place {
	bad := api.Place{Fault: api.FaultPage}
	if h.Satp>>60 == 0 {
		return c.second(va, access)
	}
	if h.Satp>>60 != 8 || va>>38 != 0 && va>>38 != 1<<26-1 {
		return bad
	}
	table := h.Satp % (1 << 44)
	for level := 2; level >= 0; level-- {
		p := c.second(table*size+8*index(va, level), api.Load)
		if p.Fault == api.FaultNone && !c.m.Has(p.PA, 8) {
			p.Fault = api.FaultBus
		}
		if p.Fault != api.FaultNone {
			p.Walk = true
			return p
		}
		e, _ := c.m.Read(p.PA, 8)
		table = e >> 10
		switch has := func(bit uint64) bool { return e&bit != 0 }; {
		case !has(api.PteV) || has(api.PteW) && !has(api.PteR) || e>>54 != 0:
			return bad
		case has(api.PteR) || has(api.PteX):
			span := uint64(1) << (9 * level)
			if table%span != 0 || !allows(h, e, access) {
				return bad
			}
			return c.second((table+va/size%span)*size+va%size, access)
		}
	}
	return bad
}

// allows is what a leaf of the first stage allows.
func allows(h api.Hart, leaf uint64, access int) bool {
	has := func(bit uint64) bool { return leaf&bit != 0 }
	if !has(api.PteA) || h.User && !has(api.PteU) || !h.User && has(api.PteU) && (access == api.Fetch || !h.Sum) {
		return false
	}
	switch access {
	case api.Fetch:
		return has(api.PteX)
	case api.Load:
		return has(api.PteR) || h.Mxr && has(api.PteX)
	}
	return has(api.PteW) && has(api.PteD)
}

// second is the second stage of one guest-physical address.
func (c *chapter) second(gpa uint64, access int) api.Place {
	if c.root == 0 {
		return api.Place{PA: gpa, GPA: gpa}
	}
	same := func(e api.Trans) bool { return e.Vmid == c.vmid && e.Page == gpa/size }
	need := [...]int{api.Fetch: api.PteX, api.Load: api.PteR, api.Store: api.PteW}[access]
	if i := slices.IndexFunc(c.list, same); i >= 0 && c.list[i].Perm&need != 0 {
		return api.Place{PA: c.list[i].Frame<<12 + gpa%size, GPA: gpa}
	}
	pa, perm, fault := page.Guest(c.m, c.root, gpa, access)
	if fault == api.FaultNone {
		c.list = slices.DeleteFunc(c.list, same)
		if len(c.list) == c.room {
			c.list = slices.Delete(c.list, 0, 1)
		}
		c.list = append(c.list, api.Trans{Vmid: c.vmid, Page: gpa / size, Frame: pa / size, Perm: perm})
	}
	return api.Place{PA: pa, GPA: gpa, Fault: fault}
}
