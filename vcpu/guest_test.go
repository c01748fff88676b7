package vcpu_test

import (
	"testing"

	"citadel/api"
	"citadel/hart"
	"citadel/inst"
	"citadel/ram"
	"citadel/tlb"
	"citadel/vcpu"
)

// Where a guest's harts begin: where an instruction can name it.
const (
	main  = 0x40000000
	other = main + 0x800
)

// guest are virtual harts that run a program in a memory of their own.
type guest struct {
	t    *testing.T
	m    *ram.RAM
	c    *hart.Core
	vs   []api.Vcpu
	now  uint64
	out  string
	down bool
}

// newGuest is one with so many virtual harts.
func newGuest(t *testing.T, harts int) *guest {
	t.Helper()
	m, _ := ram.New(main, 1)
	x, _ := tlb.New(1)
	return &guest{t: t, m: m, c: hart.New(m, x), vs: vcpu.Begin(harts, main)}
}

// lays writes instructions from a place on.
func (g *guest) lays(at uint64, list ...api.Inst) {
	g.t.Helper()
	for _, i := range list {
		w, ok := inst.Encode(i)
		if !ok {
			g.t.Fatalf("%+v is no instruction", i)
		}
		g.m.Write(at, 4, uint64(w))
		at += 4
	}
}

// sets are instructions that put a number, of 31 bits, into a register.
func sets(reg, v int) []api.Inst {
	high := (v + 0x800) >> 12 << 12
	return []api.Inst{{Kind: api.KindLui, Rd: reg, Imm: high}, {Kind: api.KindAluImm, Fn: api.Addw, Rd: reg, Rs1: reg, Imm: v - high}}
}

// calls are instructions that make a call.
func calls(kind, fn, a, b, c int) []api.Inst {
	var list []api.Inst
	for reg, v := range map[int]int{17: kind, 16: fn, 10: a, 11: b, 12: c} {
		list = append(list, sets(reg, v)...)
	}
	return append(list, api.Inst{Kind: api.KindEcall})
}

// step is one of number i, as far as it can.
func (g *guest) step(i int) {
	g.t.Helper()
	v := vcpu.Ready(g.vs[i], g.now, false)
	g.vs[i] = v
	if v.State != api.Running {
		return
	}
	h, ev := g.c.Step(v.Hart, g.now)
	g.vs[i].Hart = h
	switch ev.Kind {
	case api.ExitWait:
		g.vs[i] = vcpu.Wait(g.vs[i])
	case api.ExitCall:
		next, out, down := vcpu.Call(g.vs, i)
		g.vs, g.out, g.down = next, g.out+string(out), g.down || down
	case api.ExitFault, api.Trapped:
		g.t.Fatalf("number %d at %#x comes to %+v", i, v.Hart.PC, ev)
	}
	if ev.Wrote {
		g.vs = vcpu.Wrote(g.vs, i, ev.GPA)
	}
}

// joined are instructions one behind the other.
func joined(lists ...[]api.Inst) []api.Inst {
	var all []api.Inst
	for _, list := range lists {
		all = append(all, list...)
	}
	return all
}

// lets are instructions that let interrupts wake a hart, without taking them.
func lets(bits int) []api.Inst {
	return append(sets(5, bits), api.Inst{Kind: api.KindCsr, Fn: 1, Rs1: 5, Imm: 0x104})
}

// P17.1 to P17.4: a program begins another hart, which waits to be interrupted, says so and stops; the first one waits
// for the clock, asks after the other, says so, and takes all down.
func TestAGuest(t *testing.T) {
	g := newGuest(t, 3)
	g.lays(main, joined(
		calls(0x48534d, 0, 1, other, 0x42),
		lets(0x20), calls(0x54494d45, 0, 50, 0, 0), []api.Inst{{Kind: api.KindWfi}},
		calls(0x735049, 0, 1, 1, 0),
		calls(0x54494d45, 0, 90, 0, 0), []api.Inst{{Kind: api.KindWfi}},
		calls(0x48534d, 2, 1, 0, 0), []api.Inst{{Kind: api.KindAluImm, Fn: api.Add, Rd: 10, Rs1: 11, Imm: 'A'}},
		sets(17, 1), []api.Inst{{Kind: api.KindEcall}},
		calls(0x53525354, 0, 0, 0, 0),
	)...)
	g.lays(other, joined(
		[]api.Inst{{Kind: api.KindAlu, Fn: api.Add, Rd: 20, Rs1: 10, Rs2: 11}},
		lets(0x2), []api.Inst{{Kind: api.KindWfi}},
		[]api.Inst{{Kind: api.KindAluImm, Fn: api.Add, Rd: 10, Rs1: 20}},
		sets(17, 1), []api.Inst{{Kind: api.KindEcall}},
		calls(0x48534d, 1, 0, 0, 0),
	)...)
	for ; g.now < 150 && !g.down; g.now++ {
		for i := range g.vs {
			g.step(i)
		}
		if g.now == 49 && (g.out != "" || g.vs[0].State != api.Waiting || g.vs[1].State != api.Waiting) {
			t.Errorf("P17.4: at %d %q, %d, %d", g.now, g.out, g.vs[0].State, g.vs[1].State)
		}
		if g.now == 89 && (g.out != "C" || g.vs[0].State != api.Waiting || g.vs[1].State != api.Stopped) {
			t.Errorf("P17.4: at %d %q, %d, %d", g.now, g.out, g.vs[0].State, g.vs[1].State)
		}
	}
	if g.out != "CB" || !g.down || g.vs[0].State != api.Stopped || g.vs[2] != (api.Vcpu{}) {
		t.Errorf("P17.3: at %d %q, down %v, %+v", g.now, g.out, g.down, g.vs)
	}
}

// P17.2: what another one stores takes a reservation, so that its store does not come to be.
func TestAReservationIsTaken(t *testing.T) {
	for _, x := range []struct{ at, fails int }{{0, 1}, {4, 1}, {8, 0}, {-8, 0}} {
		g := newGuest(t, 2)
		g.lays(main, joined(sets(6, main+0x400), []api.Inst{
			{Kind: api.KindLr, Rd: 7, Rs1: 6, Size: 4}, {Kind: api.KindSc, Rd: 8, Rs1: 6, Rs2: 5, Size: 4},
		})...)
		g.lays(other, api.Inst{Kind: api.KindStore, Rs1: 10, Rs2: 11, Imm: x.at, Size: 4})
		g.vs[1] = api.Vcpu{State: api.Running, Hart: hart.Reset(other, main+0x400, 77)}
		for range 3 {
			g.step(0)
		}
		if !g.vs[0].Hart.Reserved {
			t.Fatalf("no reservation: %+v", g.vs[0])
		}
		g.step(1)
		g.step(0)
		if got := g.vs[0].Hart.X[8]; got != uint64(x.fails) {
			t.Errorf("P17.2: a store %d behind: %d", x.at, got)
		}
	}
}

// The chapter's section 'Examples'.
func TestExamples(t *testing.T) {
	vs := vcpu.Begin(2, 0x80000000)
	if vs[0].State != api.Running || vs[1].State != api.Stopped {
		t.Errorf("P17.1: Begin: %+v", vs)
	}
	k := ask{0x48534d, 0, 1, 0x80001000, 7}
	k.by(vs, 0)
	vs, _, _ = vcpu.Call(vs, 0)
	if v := vs[1]; v.State != api.Running || v.Hart.PC != 0x80001000 || v.Hart.X[10] != 1 || v.Hart.X[11] != 7 {
		t.Errorf("P17.3: number 1: %+v", v)
	}
	if h := vs[0].Hart; h.X[10] != 0 || h.PC != 0x80000004 {
		t.Errorf("P17.3: number 0: %+v", h)
	}
	k.by(vs, 0)
	vs, _, _ = vcpu.Call(vs, 0)
	if h := vs[0].Hart; h.X[10] != 1<<64-6 || h.PC != 0x80000008 {
		t.Errorf("P17.3: once more: %+v", h)
	}
}
