package bare_test

import (
	"slices"

	"citadel/api"
	"citadel/board"
	"citadel/engine"
	"citadel/hart"
	"citadel/inst"
	"citadel/page"
	"citadel/ram"
	"citadel/tlb"
	"citadel/vcpu"
)

// right is Right, read out.
func right(c api.GuestConf) bool {
	if c.Vcpus < 1 || c.Vcpus > 64 || c.Pages < 1 || c.Pages > 64 || len(c.Image) > c.Pages*4096 {
		return false
	}
	return board.Right(c.Vcpus, c.Devs, c.Disk)
}

// chapter is the chapter read out over the layers below. What a load or a store is, and how it is ended or refused, it
// finds out by itself, from the instruction that stands there; and so when a virtual hart is interrupted.
type chapter struct {
	mem  *ram.RAM
	b    *board.Board
	vs   []api.Vcpu
	now  uint64
	down bool
}

// newChapter is New, of what may be.
func newChapter(c api.GuestConf) *chapter {
	mem, _ := ram.New(0x80000000, c.Pages)
	for i, v := range c.Image {
		mem.Write(0x80000000+uint64(i), 1, uint64(v))
	}
	b, _ := board.New(c.Vcpus, slices.Clone(c.Devs), slices.Clone(c.Disk), engine.Flat(mem))
	x := &chapter{mem: mem, b: b, vs: make([]api.Vcpu, c.Vcpus)}
	x.vs[0].State, x.vs[0].Hart.PC = 1, 0x80000000
	return x
}

// has tells whether a virtual hart may have a turn.
func (c *chapter) has(i int) bool { return !c.down && i >= 0 && i < len(c.vs) }

// readied is a virtual hart behind Ready.
func (c *chapter) readied(i int) api.Vcpu {
	v := c.vs[i]
	v.Hart.Sip &= 2
	if v.Armed && c.now >= v.Deadline {
		v.Hart.Sip += 0x20
	}
	if c.b.Pending(i) {
		v.Hart.Sip += 0x200
	}
	if v.State == 2 && v.Hart.Sip&v.Hart.Sie != 0 {
		v.State = 1
	}
	return v
}

// core runs harts in a memory, and remembers nothing.
func core(m *ram.RAM) *hart.Core {
	t, _ := tlb.New(64)
	return hart.New(m, t)
}

// peek is Peek: it does the step in a copy.
func (c *chapter) peek(i int) api.Event {
	if !c.has(i) || c.readied(i).State != 1 {
		return api.Event{Kind: -1}
	}
	_, ev := core(c.mem.Copy()).Step(c.readied(i).Hart, c.now)
	return ev
}

// do is Do.
func (c *chapter) do(l api.Label) {
	switch l.Kind {
	case 1:
		c.step(l.N)
	case 2:
		c.now++
	case 3:
		c.b.In(c.mem, l.N, slices.Clone(l.Bytes))
	case 4:
		c.b.Dma()
	case 5:
		c.b.Unplug()
	}
}

// step is a LabelStep.
func (c *chapter) step(i int) {
	if !c.has(i) {
		return
	}
	c.vs[i] = c.readied(i)
	if c.vs[i].State != 1 {
		return
	}
	h, ev := core(c.mem).Step(c.vs[i].Hart, c.now)
	switch ev.Kind {
	case 0, 1, 2:
		c.vs[i].Hart = h
		for j := range c.vs {
			if other := &c.vs[j].Hart; ev.Wrote && j != i && other.Reserved && other.Reservation/8 == ev.GPA/8 {
				other.Reserved = false
			}
		}
	case 3:
		c.emulate(&c.vs[i].Hart, ev)
	case 4:
		next, out, down := vcpu.Call(c.vs, i)
		c.vs, c.down = next, down
		for _, v := range out {
			c.b.Put(v)
		}
	case 5:
		c.vs[i].Hart, c.vs[i].State = h, 2
	}
}

// emulate is what is done with an ExitFault.
func (c *chapter) emulate(h *api.Hart, ev api.Event) {
	i, long, ok := c.stands(*h)
	if ok && !ev.Walk && ev.VA == h.X[i.Rs1]+uint64(i.Imm) {
		if i.Kind == 6 && ev.Access == 2 && c.loads(h, i, ev.GPA) || i.Kind == 7 && ev.Access == 3 && c.b.Write(c.mem, ev.GPA, i.Size, h.X[i.Rs2]) {
			h.PC += long
			return
		}
	}
	h.Sepc, h.Stval, h.Scause = h.PC, ev.VA, [4]uint64{0, 1, 5, 7}[ev.Access]
	h.Spp, h.Spie, h.On, h.User = !h.User, h.On, false, false
	h.PC = h.Stvec / 4 * 4
}

// loads reads for a load, and tells whether it could.
func (c *chapter) loads(h *api.Hart, i api.Inst, gpa uint64) bool {
	v, ok := c.b.Read(c.mem, gpa, i.Size, c.now)
	if ok && i.Rd != 0 {
		shift := 64 - 8*i.Size
		h.X[i.Rd] = v << shift >> shift
		if i.Signed {
			h.X[i.Rd] = uint64(int64(v<<shift) >> shift)
		}
	}
	return ok
}

// stands is the instruction that a hart stands at, and how long it is.
func (c *chapter) stands(h api.Hart) (api.Inst, uint64, bool) {
	low, ok := c.half(h, h.PC)
	if !ok {
		return api.Inst{}, 0, false
	}
	if low&3 != 3 {
		w, ok := inst.Expand(uint16(low))
		i, is := inst.Decode(w)
		return i, 2, ok && is
	}
	high, ok := c.half(h, h.PC+2)
	i, is := inst.Decode(uint32(high<<16 | low))
	return i, 4, ok && is
}

// half is half of an instruction.
func (c *chapter) half(h api.Hart, va uint64) (uint64, bool) {
	p := page.Translate(c.mem, api.Env{Satp: h.Satp, User: h.User, Sum: h.Sum, Mxr: h.Mxr}, va, api.Fetch)
	v, ok := c.mem.Read(p.PA, 2)
	return v, ok && p.Fault == 0
}
