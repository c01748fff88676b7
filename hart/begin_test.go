package hart_test

import (
	"testing"

	"citadel/api"
	"citadel/hart"
)

// P6.1: Reset is all zero but PC, whose lowest bit is 0, and two registers.
func TestReset(t *testing.T) {
	numbers := []uint64{0, 1, 2, 3, base, base + 1, 1 << 63, ones - 1, ones}
	for _, pc := range numbers {
		for _, a0 := range numbers {
			for _, a1 := range numbers {
				want := api.Hart{PC: pc / 2 * 2}
				want.X[10], want.X[11] = a0, a1
				if h := hart.Reset(pc, a0, a1); h != want {
					t.Errorf("P6.1: Reset(%#x, %#x, %#x): %s", pc, a0, a1, unlike(h, want))
				}
			}
		}
	}
}

// The chapter's examples.
func TestExamples(t *testing.T) {
	w := newWorld(t, base, 1, 1)
	w.set(base, 4, 0x00500093)
	w.set(base+4, 4, 0x0000a103)
	h := hart.Reset(base, 0, 0)
	g := behind(with(h, 1, 5), 4)
	w.does("P6.5", h, g, api.Event{})
	h, g = g, trapped(g, 4, 5)
	if g.PC != 0 || g.Scause != 4 || g.Stval != 5 {
		t.Fatal("the example is another")
	}
	w.does("P6.5", h, g, api.Event{Kind: api.Trapped})
	w.does("P6.4", g, g, api.Event{Kind: api.ExitFault, Access: api.Fetch})
}

// P6.1: a new core has root 0 and VMID 0; Enter gives it others, and takes them away again.
func TestNewAndEnter(t *testing.T) {
	w := newGuest(t, 4)
	h := hart.Reset(gpa(code), 0, 0)
	w.c = hart.New(w.m, w.x)
	w.exits(h, api.Event{Access: api.Fetch, VA: gpa(code), GPA: gpa(code)}) // no second stage
	for _, vmid := range []int{0, 3, api.MaxVmid, -1, 1 << 40} {
		w.x.FlushAll()
		w.c.Enter(w.root, vmid)
		w.does("P6.1", h, behind(h, 4), api.Event{})
		w.holds("P6.1", api.Trans{Vmid: vmid, Page: pageOf(code), Frame: w.frame(code), Perm: rwx})
		w.c.Enter(0, vmid)
		w.exits(h, api.Event{Access: api.Fetch, VA: gpa(code), GPA: gpa(code)}) // the TLB is not asked
	}
	w.x.Put(api.Trans{Page: pageOf(code), Frame: w.frame(other), Perm: rwx})
	w.c = hart.New(w.m, w.x)
	w.exits(h, api.Event{Access: api.Fetch, VA: gpa(code), GPA: gpa(code)})
	w.c.Enter(w.root, 0)
	w.traps("P6.1", h, 2, 0) // the entry of VMID 0 leads to the other page, where no instruction stands
}

// P6.1: cores know nothing of one another, but for the memory that both were given.
func TestTwoCores(t *testing.T) {
	w := newGuest(t, 4)
	v := newGuest(t, 4)
	both := hart.New(w.m, v.x)
	h := hart.Reset(gpa(code), 0, 0)
	both.Enter(0, 9)
	w.does("P6.1", h, behind(h, 4), api.Event{})
	if len(v.x.Entries()) != 0 {
		t.Error("R4: a step of one core has turned another's TLB")
	}
	w.code(w.pa(code), api.Inst{Kind: api.KindStore, Rs1: 10, Rs2: 11, Size: 8})
	h.X[10], h.X[11] = gpa(data), 77
	was := v.all()
	w.does("P6.5", h, behind(h, 4), wrote(gpa(data)))
	if string(was) != string(v.all()) {
		t.Error("R4: a step over one memory has turned another")
	}
	g := hart.Reset(base, 0, 0)
	w.code(base, api.Inst{Kind: api.KindLoad, Rd: 5, Rs1: 10, Size: 8, Signed: true})
	g.X[10] = w.pa(data)
	if got, ev := both.Step(g, 0); got != behind(with(g, 5, 77), 4) || ev != (api.Event{}) {
		t.Errorf("P6.1: a core does not see what another has stored into its memory: %+v", ev)
	}
}
