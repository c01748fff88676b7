package bare_test

import (
	"testing"

	"citadel/api"
)

// P19.2: each call is done as vcpu's Call does it, by the virtual hart that makes it.
func TestCalls(t *testing.T) {
	for _, x := range []struct {
		name            string
		kind, fn        uint64
		a, b, c         uint64
		error, value    uint64
		stopped, isDown bool
	}{
		{"which version", asks, 0, 0, 7, 0, 0, 0x02000000, false, false},
		{"which kinds", asks, 3, harts, 7, 0, 0, 1, false, false},
		{"the timer", timer, 0, 99, 7, 0, 0, 0, false, false},
		{"a byte", puts, 3, 'q', 7, 0, 0, 7, false, false},
		{"wake", wakes, 0, 5, 0, 0, 0, 0, false, false},
		{"begin", harts, 0, 2, base + 0x801, 3, 0, 0, false, false},
		{"begin one that has begun", harts, 0, 0, base, 0, ones - 5, 0, false, false},
		{"begin none", harts, 0, 3, base, 0, ones - 2, 0, false, false},
		{"the state", harts, 2, 1, 7, 0, 0, 1, false, false},
		{"none", 99, 0, 1, 7, 0, ones - 1, 0, false, false},
		{"stop", harts, 1, 0, 7, 0, 0, 7, true, false},
		{"down", resets, 0, 3, 7, 0, 3, 7, true, true},
	} {
		list := join(ecall(x.kind, x.fn, x.a, x.b, x.c), one(stay))
		p := newPair(t, api.GuestConf{Vcpus: 3, Pages: 1, Image: image(list)})
		p.runs(list[:len(list)-2])
		at := p.hart(0).PC
		if p.m.Peek(0) != (api.Event{Kind: api.ExitCall}) {
			t.Errorf("P19.2: %s: Peek = %+v", x.name, p.m.Peek(0))
		}
		p.steps(0, 1)
		v, s := p.vcpu(0), p.m.See()
		if x.stopped {
			if v.State != api.Stopped || v.Hart.PC != at || v.Hart.X[10] != x.a || v.Hart.X[11] != 7 || s.Down != x.isDown {
				t.Errorf("P19.2: %s: %+v", x.name, v)
			}
			continue
		}
		if v.Hart.X[10] != x.error || v.Hart.X[11] != x.value && x.value != 7 || v.Hart.PC != at+4 || v.State != api.Running || s.Down {
			t.Errorf("P19.2: %s: %+v", x.name, v)
		}
		if (x.kind == puts) != (string(s.Uart) == "q") || (x.kind == timer) != v.Armed || (x.kind == wakes) != (v.Hart.Sip&2 != 0) || (x.kind == wakes) != (p.hart(2).Sip == 2) || p.hart(1).Sip != 0 {
			t.Errorf("P19.2: %s: %q, %+v", x.name, s.Uart, s.Vcpus)
		}
		if begun := x.name == "begin"; begun != (p.vcpu(2).State == api.Running) || begun && (p.hart(2).PC != base+0x800 || p.hart(2).X[10] != 2 || p.hart(2).X[11] != 3) {
			t.Errorf("P19.2: %s: %+v", x.name, p.vcpu(2))
		}
	}
}

// P19.2: what a call puts out the board sends, whatever the UART's registers say, behind what was sent.
func TestPut(t *testing.T) {
	list := join(poke(api.UartBase, 1, 'a'), ecall(puts, 0, 'b'|0x7700, 0, 0), poke(uartLCR, 1, 0x80), ecall(puts, 9, 'c', 0, 0), poke(api.UartBase, 1, 'x'), poke(uartLCR, 1, 0), poke(api.UartBase, 1, 'd'))
	p := newPair(t, api.GuestConf{Vcpus: 1, Pages: 1, Image: image(list)})
	p.runs(list)
	if s := p.m.See(); string(s.Uart) != "abcd" {
		t.Errorf("P19.2: %q", s.Uart)
	}
}

// P19.2: another one than number 0 calls, for itself.
func TestCallOfAnother(t *testing.T) {
	list := join(ecall(harts, 0, 1, base+0x400, 0), one(stay))
	b := place(image(list), 0x400, image(ecall(timer, 0, 7, 0, 0), ecall(harts, 2, 0, 0, 0), ecall(harts, 1, 0, 0, 0)))
	p := newPair(t, api.GuestConf{Vcpus: 2, Pages: 1, Image: b})
	p.runs(list[:len(list)-1])
	for p.vcpu(1).State == api.Running {
		p.steps(1, 1)
	}
	if v := p.vcpu(1); !v.Armed || v.Deadline != 7 || p.vcpu(0).Armed || p.vcpu(0).State != api.Running {
		t.Errorf("P19.2: %+v, %+v", p.vcpu(0), v)
	}
}

// P19.2: a machine that is down makes no step; time goes on, and what comes in, moves, and is unplugged does so.
func TestDown(t *testing.T) {
	engine := join(finds(1), copies(0, base, base+0x1000, 16, 1))
	list := join(engine, ecall(harts, 0, 1, base, 0), ecall(resets, 0, 0, 0, 0))
	p := newPair(t, api.GuestConf{Vcpus: 3, Pages: 2, Devs: []int{api.DevEngine, api.DevConsole}, Image: image(list)})
	for !p.m.See().Down {
		p.steps(0, 1)
	}
	was := p.m.See()
	if was.Vcpus[0].Hart.PC != base+4*uint64(len(list))-4 {
		t.Errorf("P19.2: PC = %#x", was.Vcpus[0].Hart.PC)
	}
	for v, it := range was.Vcpus {
		if it.State != api.Stopped || p.m.Peek(v) != (api.Event{Kind: -1}) {
			t.Errorf("P19.2: number %d is in state %d", v, it.State)
		}
		p.steps(v, 2)
	}
	sameSight(t, "P19.2", p.m.See(), was)
	p.ticks(3)
	p.in(0, []byte("a"))
	p.in(2, []byte("b"))
	p.do(api.Label{Kind: api.LabelDma})
	if got := p.m.Memory(1); string(got[:8]) != string(p.m.Memory(0)[:8]) || got[8] != 0 {
		t.Error("P19.2: the engine has not copied 8 bytes")
	}
	p.do(api.Label{Kind: api.LabelUnplug})
	p.do(api.Label{Kind: api.LabelDma})
	p.do(api.Label{Kind: api.LabelTick})
	was.Now = 4
	sameSight(t, "P19.2", p.m.See(), was)
	if p.m.Memory(1)[8] != 0 {
		t.Error("P19.2: an engine that is gone copies")
	}
	if v, _ := p.c.b.Read(p.c.mem, api.UartBase+5, 1, 0); v&1 != 1 {
		t.Error("P19.2: nothing came in")
	}
}
