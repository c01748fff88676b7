package hart_test

import (
	"testing"

	"citadel/api"
)

// P6.4, 2: compressed instructions are what they stand for, but that they have two bytes.
func TestCompressed(t *testing.T) {
	h := sample()
	jump := func(to uint64, regs ...uint64) api.Hart {
		g := with(h, regs...)
		g.PC = to
		return g
	}
	for _, x := range []struct {
		bits uint64
		want api.Hart
	}{
		{0x4501, jump(start+2, 10, 0)},                 // li x10, 0
		{0x0001, jump(start + 2)},                      // nop
		{0x852e, jump(start+2, 10, h.X[11])},           // mv x10, x11
		{0x952e, jump(start+2, 10, h.X[10]+h.X[11])},   // add x10, x11
		{0xa011, jump(start + 4)},                      // j 4
		{0x8582, jump(h.X[11] &^ 1)},                   // jr x11
		{0x9582, jump(h.X[11]&^1, 1, start+2)},         // jalr x11
		{0x9082, jump(h.X[1]&^1, 1, start+2)},          // jalr x1
		{0xe191, jump(start + 4)},                      // bnez x11, 4
		{0xc191, jump(start + 2)},                      // beqz x11, 4
		{0x6505, jump(start+2, 10, 0x1000)},            // lui x10, 1
		{0x1579, jump(start+2, 10, h.X[10]+(1<<64-2))}, // addi x10, -2
	} {
		w := plainBits(t, 2, x.bits)
		w.set(start+2, 2, 0xffff) // what stands behind it does not count
		w.retires(h, x.want)
	}
	w := plainBits(t, 2, 0x418c) // lw x11, 0(x11)
	w.set(there, 4, 0x8765_4321)
	h = with(h, 11, there)
	w.retires(h, behind(with(h, 11, 0xffff_ffff_8765_4321), 2))
	w.traps("P6.5", with(h, 11, there+2), 4, there+2)
	w.exits(with(h, 11, end), api.Event{Access: api.Load, VA: end, GPA: end})
	w = plainBits(t, 2, 0xc188) // sw x10, 0(x11)
	w.does("P6.5", h, behind(h, 2), wrote(there))
}

// P6.4, 2: instructions at the first and the last bytes of the memory, and where there are none.
func TestFetchAtTheEdges(t *testing.T) {
	w := newWorld(t, base, 2, 1)
	w.set(base, 2, 0x0001)
	w.set(end-2, 2, 0x0001)
	w.retires(at(base), behind(at(base), 2))
	w.retires(at(end-2), behind(at(end-2), 2)) // a compressed one is not asked for more
	w.set(end-2, 2, 0x0013)
	w.exits(at(end-2), api.Event{Access: api.Fetch, VA: end, GPA: end}) // the second half
	w.set(end-4, 4, 0x00000013)
	w.retires(at(end-4), behind(at(end-4), 4))
	for _, pc := range []uint64{end, end + 2, base - 2, base - 4, 0, 1 << 39, 1 << 63, ones - 1, ones} {
		w.exits(at(pc), api.Event{Access: api.Fetch, VA: pc &^ 1, GPA: pc &^ 1})
	}
	w.set(base+size-2, 4, 0x00530293) // addi x5, x6, 5 over the border of two frames
	h := at(base + size - 2)
	w.retires(h, behind(with(h, 5, h.X[6]+5), 4))
	w.set(base+2, 4, 0x00530293) // at an address that is no multiple of 4
	w.retires(at(base+2), behind(with(at(base+2), 5, h.X[6]+5), 4))
}

// P6.4, 2: the halves of an instruction that lie in two pages are translated each by itself.
func TestFetchOverTwoPages(t *testing.T) {
	const bits = 0x00530293 // addi x5, x6, 5
	fresh := func() guest {
		w := newGuest(t, 8)
		w.set(w.pa(code)+size-2, 2, bits&0xffff)
		w.set(w.pa(after), 2, bits>>16)
		return w
	}
	physical, virtual := at(gpa(after)-2), virtually(va(after)-2)
	for _, h := range []api.Hart{physical, virtual} {
		fresh().retires(h, behind(with(h, 5, h.X[6]+5), 4))
	}
	w := fresh()
	w.retires(physical, behind(with(physical, 5, physical.X[6]+5), 4))
	w.holds("P6.4", w.entries(code, after)...)

	w = fresh()
	w.allow(after, full&^api.PteX)
	w.exits(physical, api.Event{Access: api.Fetch, VA: gpa(after), GPA: gpa(after)})
	w.holds("P6.4", w.entry(code))
	w.exits(virtual, api.Event{Access: api.Fetch, VA: va(after), GPA: gpa(after)})
	w.own(lower, index(va(after), 0), pte(pageOf(after), own&^api.PteX))
	w.traps("P6.4", virtual, 12, va(after)) // Sepc is PC still

	w = fresh()
	w.allow(code, full&^api.PteX)
	w.allow(after, 0)
	w.exits(physical, api.Event{Access: api.Fetch, VA: gpa(after) - 2, GPA: gpa(after) - 2})
	w.exits(virtual, api.Event{Access: api.Fetch, VA: va(after) - 2, GPA: gpa(after) - 2})
	w.own(lower, index(va(code), 0), pte(pageOf(code), own&^api.PteX))
	w.traps("P6.4", virtual, 12, va(after)-2)

	w = fresh() // a compressed one at the end of its page is not asked for the next
	w.set(w.pa(code)+size-2, 2, 0x0001)
	w.allow(after, 0)
	w.retires(physical, behind(physical, 2))
	w.holds("P6.4", w.entry(code))
	w.own(lower, index(va(after), 0), 0)
	w.retires(virtual, behind(virtual, 2))

	w = fresh() // what is illegal is told with both halves
	w.set(w.pa(code)+size-2, 2, 0xffff)
	w.set(w.pa(after), 2, 0x1234)
	w.traps("P6.4", virtual, 2, 0x1234ffff)
}

// P6.4, 2: an address wraps round from its last to its first.
func TestFetchOverTheLastAddress(t *testing.T) {
	w := newWorld(t, 0, 1, 1)
	w.exits(at(ones), api.Event{Access: api.Fetch, VA: ones - 1, GPA: ones - 1})
	g := newGuest(t, 8)
	g.x.Put(api.Trans{Vmid: vmid, Page: 1<<52 - 1, Frame: g.frame(code), Perm: api.PteX})
	g.x.Put(api.Trans{Vmid: vmid, Page: 0, Frame: g.frame(after), Perm: api.PteX})
	g.set(g.pa(code)+size-2, 2, 0x0293)
	g.set(g.pa(after), 2, 0x0053)
	h := at(ones - 1)
	want := with(h, 5, h.X[6]+5)
	want.PC = 2
	g.retires(h, want)
}
