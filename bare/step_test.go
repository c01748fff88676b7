package bare_test

import (
	"slices"
	"testing"

	"citadel/api"
)

// P19.2: a LabelStep of a virtual hart that is not there, or is stopped, does nothing, and nothing comes of its Peek.
func TestStepOfNone(t *testing.T) {
	for _, vcpus := range []int{1, 2, 64} {
		p := newPair(t, api.GuestConf{Vcpus: vcpus, Pages: 1, Image: image(one(nop), one(stay))})
		was := p.m.See()
		for _, v := range append(slices.Clone(none), vcpus, vcpus+1, -vcpus) {
			p.steps(v, 1)
			if got := p.m.Peek(v); got != (api.Event{Kind: -1}) {
				t.Errorf("P19.2: Peek(%d) = %+v", v, got)
			}
		}
		for v := 1; v < vcpus; v++ {
			p.steps(v, 1)
		}
		sameSight(t, "P19.2", p.m.See(), was)
		p.steps(0, 1)
		if p.hart(0).PC != base+4 {
			t.Error("P19.2: number 0 has not made its step")
		}
	}
}

// P19.2: kinds that are none do nothing.
func TestNoKind(t *testing.T) {
	p := newPair(t, api.GuestConf{Vcpus: 1, Pages: 1, Devs: []int{api.DevEngine}, Image: image(one(nop))})
	was := p.m.See()
	for _, kind := range noKinds {
		for _, n := range []int{0, 1, -1} {
			p.do(api.Label{Kind: kind, N: n, Bytes: []byte("x")})
			sameSight(t, "P19.2", p.m.See(), was)
		}
	}
}

// P19.2: of a label count its kind, and of a step and what comes in the number; of what comes in the bytes.
func TestOtherFields(t *testing.T) {
	p := newPair(t, api.GuestConf{Vcpus: 1, Pages: 1, Image: image(one(nop), one(nop))})
	for _, n := range append(slices.Clone(none), 0, 1) {
		now := p.m.See().Now
		p.do(api.Label{Kind: api.LabelTick, N: n, Bytes: []byte("x")})
		if p.m.See().Now != now+1 {
			t.Errorf("P19.2: a tick with the number %d", n)
		}
	}
	p.do(api.Label{Kind: api.LabelStep, Bytes: []byte("x")})
	if p.hart(0).PC != base+4 {
		t.Error("P19.2: a step with bytes")
	}
}

// P19.2: a step that is retired, one that traps, and one that is interrupted, stay as they say.
func TestSteps(t *testing.T) {
	list := join(csrw(stvec, base+0x200), li(7, 42), one(api.Inst{Kind: api.KindEbreak}))
	b := image(list)
	b = lay(b, 0x200, 4, 0x00138393) // addi x7, x7, 1
	p := newPair(t, api.GuestConf{Vcpus: 1, Pages: 1, Image: b})
	p.runs(list[:len(list)-1])
	at := p.hart(0).PC
	if p.m.Peek(0) != (api.Event{Kind: api.Trapped}) {
		t.Errorf("P19.2: Peek = %+v", p.m.Peek(0))
	}
	p.steps(0, 1)
	if h := p.hart(0); h.PC != base+0x200 || h.Scause != 3 || h.Sepc != at || h.Stval != at || h.X[7] != 42 {
		t.Errorf("P19.2: %+v", h)
	}
	p.steps(0, 1)
	if h := p.hart(0); h.PC != base+0x204 || h.X[7] != 43 {
		t.Errorf("P19.2: %+v", h)
	}
}

// P19.2: a virtual hart is as it is behind Ready, by the time and by its own interrupts, and that stays, also if it does
// not run.
func TestReadyStays(t *testing.T) {
	list := join(ecall(timer, 0, 2, 0, 0), poke(intcLets+4, 4, 2), poke(uartIER, 1, 1), ecall(harts, 1, 0, 0, 0))
	p := newPair(t, api.GuestConf{Vcpus: 2, Pages: 1, Image: image(list)})
	for p.vcpu(0).State == api.Running {
		p.steps(0, 1)
	}
	sips := func(want0, want1 uint64) {
		t.Helper()
		if p.hart(0).Sip != want0 || p.hart(1).Sip != want1 {
			t.Errorf("P19.2: Sip %#x, %#x, not %#x, %#x", p.hart(0).Sip, p.hart(1).Sip, want0, want1)
		}
	}
	p.ticks(1)
	p.steps(0, 1)
	sips(0, 0)
	p.ticks(1)
	sips(0, 0)
	p.steps(1, 1)
	sips(0, 0)
	p.steps(0, 1)
	sips(0x20, 0)
	p.in(0, []byte("x"))
	sips(0x20, 0)
	p.steps(0, 1)
	sips(0x20, 0)
	p.steps(1, 1)
	sips(0x20, 0x200)
	if p.vcpu(0).State != api.Stopped || p.vcpu(1).State != api.Stopped || p.m.Peek(0).Kind != -1 || p.m.Peek(1).Kind != -1 {
		t.Error("P19.2: a stopped one has begun")
	}
}

// P19.2: one that waits does nothing till an interrupt that it lets has come; then it makes a step with the same label.
func TestWaits(t *testing.T) {
	list := join(csrw(sie, 0x20), ecall(timer, 0, 3, 0, 0), one(wfi), li(7, 9))
	p := newPair(t, api.GuestConf{Vcpus: 1, Pages: 1, Image: image(list)})
	p.runs(list[:len(list)-2])
	if p.m.Peek(0) != (api.Event{Kind: api.ExitWait}) {
		t.Errorf("P19.2: Peek = %+v", p.m.Peek(0))
	}
	at := p.hart(0).PC
	p.steps(0, 1)
	for range 3 {
		if v := p.vcpu(0); v.State != api.Waiting || v.Hart.PC != at+4 || v.Hart.X[7] != 0 || p.m.Peek(0).Kind != -1 {
			t.Errorf("P19.2: at %d: %+v", p.c.now, v)
		}
		p.ticks(1)
		p.steps(0, 1)
	}
	if v := p.vcpu(0); v.State != api.Running || v.Hart.PC != at+8 || v.Hart.X[7] != 9 || v.Hart.Sip != 0x20 {
		t.Errorf("P19.2: %+v", v)
	}
}

// P19.2: one that waits is woken by the step that it makes: an interrupt that it takes.
func TestWaitsAndIsInterrupted(t *testing.T) {
	list := join(csrw(stvec, base+0x400), csrw(sie, 0x20), csrw(sstatus, 2), ecall(timer, 0, 1, 0, 0), one(wfi))
	p := newPair(t, api.GuestConf{Vcpus: 1, Pages: 1, Image: image(list)})
	p.runs(list)
	p.ticks(1)
	if p.m.Peek(0) != (api.Event{Kind: api.Taken}) || p.vcpu(0).State != api.Waiting {
		t.Errorf("P19.2: Peek = %+v of %+v", p.m.Peek(0), p.vcpu(0))
	}
	p.steps(0, 1)
	if v := p.vcpu(0); v.State != api.Running || v.Hart.Scause != 1<<63|5 || v.Hart.Sepc != base+4*uint64(len(list)) || v.Hart.PC != base+0x400 {
		t.Errorf("P19.2: %+v", v)
	}
}

// P19.2: a store takes the reservations that others have of the same 8 bytes, and no other.
func TestWrote(t *testing.T) {
	const cell = base + 0x800
	reserve := func(off uint64) []api.Inst {
		return join(li(8, cell+off), one(api.Inst{Kind: api.KindLr, Size: 4, Rd: 9, Rs1: 8}), one(stay))
	}
	for _, x := range []struct {
		name    string
		last    []api.Inst
		takes   bool
		ownGone bool
	}{
		{"a store", join(li(8, cell+4), one(api.Inst{Kind: api.KindStore, Size: 1, Rs1: 8, Rs2: 9})), true, false},
		{"a store elsewhere", join(li(8, cell+8), one(api.Inst{Kind: api.KindStore, Size: 8, Rs1: 8, Rs2: 9})), false, false},
		{"an atomic", join(li(8, cell), one(api.Inst{Kind: api.KindAmo, Fn: api.AmoOr, Size: 8, Rd: 9, Rs1: 8})), true, false},
		{"a store-conditional", join(li(8, cell), one(api.Inst{Kind: api.KindSc, Size: 4, Rd: 9, Rs1: 8})), true, true},
		{"one that fails", join(li(8, cell+4), one(api.Inst{Kind: api.KindSc, Size: 4, Rd: 9, Rs1: 8})), false, true},
		{"a load", join(li(8, cell), one(api.Inst{Kind: api.KindLoad, Size: 4, Rd: 9, Rs1: 8})), false, false},
		{"a store to a device", poke(uartSCR, 1, 5), false, false},
	} {
		list := join(ecall(harts, 0, 1, base+0x400, 0), ecall(harts, 0, 2, base+0x500, 0), reserve(0)[:len(reserve(0))-1], x.last)
		b := place(place(image(list), 0x400, image(reserve(4))), 0x500, image(reserve(8)))
		p := newPair(t, api.GuestConf{Vcpus: 3, Pages: 1, Image: b})
		p.runs(list[:len(list)-1])
		p.steps(1, 15)
		p.steps(2, 15)
		if !p.hart(0).Reserved || !p.hart(1).Reserved || !p.hart(2).Reserved {
			t.Fatalf("%s: %+v", x.name, p.m.See())
		}
		p.steps(0, 1)
		elsewhere := x.name == "a store elsewhere"
		if p.hart(1).Reserved == x.takes || p.hart(2).Reserved == elsewhere || p.hart(0).Reserved == x.ownGone {
			t.Errorf("P19.2: behind %s reserved are %v, %v, %v", x.name, p.hart(0).Reserved, p.hart(1).Reserved, p.hart(2).Reserved)
		}
	}
}

// P19.2: time is counted from 0 on, one by one, and a guest sees it: by its CSR, by its clock, and by its timer.
func TestTime(t *testing.T) {
	list := join(
		one(api.Inst{Kind: api.KindCsr, Fn: 2, Rd: 7, Imm: timeCSR}), peek(8, api.ClockBase, 4, false), one(stay))
	p := newPair(t, api.GuestConf{Vcpus: 1, Pages: 1, Image: image(list)})
	p.ticks(5)
	p.steps(0, 1)
	p.ticks(300)
	p.steps(0, len(list)-2)
	if h := p.hart(0); h.X[7] != 5 || h.X[8] != 305 || p.m.See().Now != 305 {
		t.Errorf("P19.2: %d, %d, %d", h.X[7], h.X[8], p.m.See().Now)
	}
}
