package hart_test

import (
	"bytes"
	"fmt"
	"math"
	"reflect"
	"strings"
	"testing"

	"citadel/api"
	"citadel/hart"
	"citadel/inst"
	"citadel/ram"
	"citadel/tlb"
)

const (
	size = api.PageSize
	base = api.RamBase
	ones = math.MaxUint64
	rwx  = api.PteR | api.PteW | api.PteX
	full = api.PteV | rwx | api.PteU | api.PteA | api.PteD
	// own is what a leaf of the first stage has for a supervisor.
	own = full &^ api.PteU
	// start is where the instruction of a plain world stands.
	start = base + 0x40
	// now is the time of all steps that no other is said for.
	now = 0x123456789
)

// world is a core under test, with its memory and its TLB.
type world struct {
	t *testing.T
	m *ram.RAM
	x *tlb.TLB
	c *hart.Core
}

func newWorld(t *testing.T, base uint64, frames, room int) world {
	t.Helper()
	m, e := ram.New(base, frames)
	x, f := tlb.New(room)
	if e != api.OK || f != api.OK {
		t.Fatalf("no memory or no TLB: %d, %d", e, f)
	}
	return world{t, m, x, hart.New(m, x)}
}

// plain is a world of two frames without a second stage, with an instruction at start.
func plain(t *testing.T, i api.Inst) world {
	t.Helper()
	w := newWorld(t, base, 2, 4)
	w.code(start, i)
	return w
}

// plainBits is plain with the bits of an instruction, or of none.
func plainBits(t *testing.T, size int, bits uint64) world {
	t.Helper()
	w := newWorld(t, base, 2, 4)
	w.set(start, size, bits)
	return w
}

// code writes an instruction at a physical address.
func (w world) code(at uint64, i api.Inst) {
	w.t.Helper()
	v, ok := inst.Encode(i)
	if !ok {
		w.t.Fatalf("no word of %+v", i)
	}
	w.set(at, 4, uint64(v))
}

// set writes a number at a physical address.
func (w world) set(at uint64, size int, v uint64) {
	w.t.Helper()
	if !w.m.Write(at, size, v) {
		w.t.Fatalf("no %d bytes at %#x", size, at)
	}
}

// get reads a number at a physical address.
func (w world) get(at uint64, size int) uint64 {
	w.t.Helper()
	v, ok := w.m.Read(at, size)
	if !ok {
		w.t.Fatalf("no %d bytes at %#x", size, at)
	}
	return v
}

// all are the memory's bytes.
func (w world) all() []byte {
	w.t.Helper()
	b, ok := w.m.Bytes(w.m.Base(), w.m.Frames()*size)
	if !ok {
		w.t.Fatal("no bytes")
	}
	return b
}

// step is a Step behind two Peeks, and holds what must be so of every one.
func (w world) step(h api.Hart, now uint64) (api.Hart, api.Event) {
	w.t.Helper()
	was := w.all()
	w.c.Peek(h, now)
	if !bytes.Equal(w.all(), was) {
		w.t.Error("P6.5: Peek has turned the memory")
	}
	g, ev := w.peekedStep(h, now)
	if !ev.Wrote && !bytes.Equal(w.all(), was) {
		w.t.Errorf("P6.6: %+v, but the memory has turned", ev)
	}
	return g, ev
}

// peekedStep is a Step behind a Peek, and holds what must be so of every one but for the memory.
func (w world) peekedStep(h api.Hart, now uint64) (api.Hart, api.Event) {
	w.t.Helper()
	held := w.x.Entries()
	peek := w.c.Peek(h, now)
	w.holds("P6.5: behind a Peek", held...)
	g, ev := w.c.Step(h, now)
	if peek != ev {
		w.t.Errorf("P6.5: Peek = %+v, Step %+v", peek, ev)
	}
	if g != ordered(g) {
		w.t.Errorf("P6.6: Step's answer is not in order: %s", unlike(g, ordered(g)))
	}
	if !ev.Wrote && ev.Kind != api.ExitFault && ev != (api.Event{Kind: ev.Kind}) {
		w.t.Errorf("R2: %+v tells what it has not to tell", ev)
	}
	return g, ev
}

// does holds a step against what it must come to.
func (w world) does(promise string, h, want api.Hart, ev api.Event) {
	w.t.Helper()
	g, e := w.step(h, now)
	w.same(promise, g, want, e, ev)
}

// same fails if a step came to another hart, or another event.
func (w world) same(promise string, g, want api.Hart, e, ev api.Event) {
	w.t.Helper()
	if e != ev {
		w.t.Errorf("%s: the step came to %+v, not %+v", promise, e, ev)
	}
	if g != want {
		w.t.Errorf("%s: the hart behind the step: %s", promise, unlike(g, want))
	}
}

// retires holds a step against a hart, and an instruction that is done and has stored nothing.
func (w world) retires(h, want api.Hart) {
	w.t.Helper()
	w.does("P6.5", h, want, api.Event{})
}

// wrote is the event of a step that has stored.
func wrote(gpa uint64) api.Event { return api.Event{Wrote: true, GPA: gpa} }

// traps holds a step against a trap.
func (w world) traps(promise string, h api.Hart, cause, value uint64) {
	w.t.Helper()
	w.does(promise, h, trapped(h, cause, value), api.Event{Kind: api.Trapped})
}

// exits holds a step against an ExitFault, behind which the hart is as it was.
func (w world) exits(h api.Hart, ev api.Event) {
	w.t.Helper()
	ev.Kind = api.ExitFault
	w.does("P6.4", h, ordered(h), ev)
}

// ordered is a hart brought in order, as the chapter says it.
func ordered(h api.Hart) api.Hart {
	h.X[0] = 0
	h.PC -= h.PC % 2
	h.Sepc -= h.Sepc % 2
	h.Stvec &= ones - 2
	h.Sie &= 1<<1 + 1<<5 + 1<<9
	h.Sip &= 1<<1 + 1<<5 + 1<<9
	return h
}

// trapped is P6.2 read out.
func trapped(h api.Hart, cause, value uint64) api.Hart {
	h = ordered(h)
	g := h
	g.Sepc, g.Scause, g.Stval = h.PC, cause, value
	g.Spp, g.Spie, g.On, g.User = !h.User, h.On, false, false
	g.PC = h.Stvec / 4 * 4
	if cause >= 1<<63 && h.Stvec%2 == 1 {
		g.PC = h.Stvec/4*4 + 4*(cause-1<<63)
	}
	return g
}

// sample is a supervisor's hart, no two of whose fields are alike, so that what stays can be told from what goes.
// Interrupts wait, and are not let.
func sample() api.Hart {
	h := api.Hart{
		PC: start, Spie: true, Sum: true, Reserved: true,
		Stvec: 0x7001, Sscratch: 0x51, Sepc: 0x52, Scause: 0x53, Stval: 0x54,
		Sie: 0x222, Sip: 0x202, Satp: 0x55, Reservation: 0x56,
	}
	for i := range h.X {
		h.X[i] = uint64(i) * 0x1000_0000_1001
	}
	return h
}

// sampleUser is a user's, for whom no interrupt waits.
func sampleUser() api.Hart {
	h := sample()
	h.User, h.Sip = true, 0
	return h
}

// with is a hart with other registers: a number, and what stands there, for each. X[0] is one that nobody may write.
func with(h api.Hart, regs ...uint64) api.Hart {
	for i := 0; i < len(regs); i += 2 {
		if regs[i] != 0 {
			h.X[regs[i]] = regs[i+1]
		}
	}
	return h
}

// behind is a hart that is so many bytes further.
func behind(h api.Hart, n uint64) api.Hart {
	h.PC += n
	return h
}

// unlike tells in which fields two harts are unlike.
func unlike(got, want api.Hart) string {
	var fields []string
	g, w := reflect.ValueOf(got), reflect.ValueOf(want)
	for i := range g.NumField() {
		if a, b := g.Field(i).Interface(), w.Field(i).Interface(); a != b {
			fields = append(fields, fmt.Sprintf("%s = %#v, not %#v", g.Type().Field(i).Name, a, b))
		}
	}
	return strings.Join(fields, "; ")
}
