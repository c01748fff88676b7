package mmio_test

import (
	"testing"

	"citadel/api"
	"citadel/hart"
	"citadel/mmio"
	"citadel/ram"
	"citadel/tlb"
)

// The chapter's section 'Examples'.
func TestExamples(t *testing.T) {
	m, _ := ram.New(0x80000000, 1)
	m.Write(0x80000000, 4, 0x0005a503)
	h := hart.Reset(0x80000000, 0, 0x10000005)
	w, long, ok := mmio.Fetch(m, 0, h)
	if w != 0x0005a503 || long != 4 || !ok {
		t.Errorf("P15.1: Fetch = %#x, %d, %v", w, long, ok)
	}
	a, ok := mmio.Plan(h, w, long)
	if want := (api.Access{Size: 4, Signed: true, Reg: 10, Len: 4, VA: 0x10000005}); a != want || !ok {
		t.Errorf("P15.2: Plan = %+v, %v", a, ok)
	}
	g := mmio.Finish(h, a, 1<<31)
	if g.X[10] != 1<<64-1<<31 || g.PC != 0x80000004 {
		t.Errorf("P15.3: Finish: X[10] = %#x, PC %#x", g.X[10], g.PC)
	}
}

// DOC.md's first example: a guest's store to where its UART is comes to an exit, and is ended as its bare machine does.
func TestAStoreToTheUart(t *testing.T) {
	m, _ := ram.New(api.RamBase, 1)
	m.Fill(api.RamBase, []byte{0x37, 0x05, 0x00, 0x10, 0x93, 0x05, 0x10, 0x04, 0x23, 0x00, 0xb5, 0x00, 0x6f, 0xf0, 0xdf, 0xff})
	x, _ := tlb.New(4)
	c := hart.New(m, x)
	h := hart.Reset(api.RamBase, 0, api.RamBase)
	h, _ = c.Step(h, 0)
	h, _ = c.Step(h, 0)
	for range 3 {
		_, ev := c.Step(h, 0)
		w, long, _ := mmio.Fetch(m, 0, h)
		a, ok := mmio.Plan(h, w, long)
		if want := (api.Access{Store: true, Size: 1, Len: 4, VA: api.UartBase, Value: 0x41}); a != want || !ok || !mmio.Match(a, ev) {
			t.Fatalf("Plan = %+v, %v, for %+v", a, ok, ev)
		}
		h = mmio.Finish(h, a, 0)
		if h.PC != api.RamBase+12 || h.X[10] != api.UartBase || h.X[11] != 0x41 {
			t.Fatalf("Finish: %+v", h)
		}
		h, _ = c.Step(h, 0)
	}
}

// DOC.md's eighth example: a load from where nobody is takes the access fault, and goes to where traps go.
func TestALoadFromNowhere(t *testing.T) {
	m, _ := ram.New(api.RamBase, 1)
	m.Fill(api.RamBase, []byte{0x37, 0x05, 0x00, 0x11, 0x83, 0x25, 0x05, 0x00})
	x, _ := tlb.New(4)
	c := hart.New(m, x)
	h, _ := c.Step(hart.Reset(api.RamBase, 0, api.RamBase), 0)
	h, ev := c.Step(h, 0)
	h = mmio.Refuse(h, ev)
	if h.PC != 0 || h.Sepc != api.RamBase+4 || h.Scause != 5 || h.Stval != 0x11000000 || h.X[11] != api.RamBase {
		t.Errorf("Refuse: %+v", h)
	}
	h, ev = c.Step(h, 0)
	if _, _, ok := mmio.Fetch(m, 0, h); ok {
		t.Error("there is nothing to fetch")
	}
	h = mmio.Refuse(h, ev)
	if h.PC != 0 || h.Sepc != 0 || h.Scause != 1 || h.Stval != 0 {
		t.Errorf("Refuse: %+v", h)
	}
}
