package bare_test

import (
	"bytes"
	"slices"
	"testing"

	"citadel/api"
)

// P19.2: what comes in at port 0 comes in at the UART, whose interrupt a virtual hart takes that lets it.
func TestUartInput(t *testing.T) {
	list := join(poke(uartIER, 1, 1), poke(intcLets, 4, 2), csrw(sie, 0x200), csrw(stvec, base+0x400), csrw(sstatus, 2), one(stay))
	handler := join(peek(8, intcAt, 4, false), peek(9, api.UartBase, 1, false), peek(10, api.UartBase, 1, false), peek(11, api.UartBase+5, 1, false), poke(intcAt, 4, 1), one(api.Inst{Kind: api.KindSret}))
	p := newPair(t, api.GuestConf{Vcpus: 1, Pages: 1, Image: place(image(list), 0x400, image(handler))})
	p.runs(list[:len(list)-1])
	p.steps(0, 3)
	p.in(0, []byte("hi"))
	if p.m.Peek(0) != (api.Event{Kind: api.Taken}) {
		t.Errorf("P19.2: Peek = %+v", p.m.Peek(0))
	}
	p.steps(0, 1)
	if h := p.hart(0); h.Scause != 1<<63|9 || h.PC != base+0x400 || h.Sip != 0x200 {
		t.Errorf("P19.2: %+v", h)
	}
	p.runs(handler[:len(handler)-1])
	p.steps(0, 1)
	if h := p.hart(0); h.X[8] != 1 || h.X[9] != 'h' || h.X[10] != 'i' || h.X[11] != 0x60 || h.PC != base+4*uint64(len(list))-4 || h.Sip != 0 {
		t.Errorf("P19.2: %+v", h)
	}
}

// P19.2: what comes in at a slot's port comes in at its device; at the engine's, the disk's, and at no port nothing does.
func TestSlotsInput(t *testing.T) {
	devs := []int{api.DevConsole, api.DevBlk, api.DevEngine, api.DevNet}
	const at = base + pageSize
	list := join(finds(4), begins(0, 0, at), begins(3, 0, at+0x800), one(stay))
	b := image(list)
	for q := range 2 { // each has one chain to write into
		from := pageSize + 0x800*q
		b = lay(b, from, 8, at+0x400+0x800*uint64(q))
		b = lay(b, from+8, 8, 2<<32|64)
		b = lay(b, from+258, 2, 1)
		b = lay(b, from+512, 8, 0)
	}
	b = lay(b, 2*pageSize, 1, 1)
	frame := append([]byte{1, 2, 3, 4, 5, 6, 7, 8, 9, 10, 11, 12, 13}, "frames"...)
	ports := append(slices.Clone(none), 0, 1, 2, 3, 4, 5, 6)
	for _, port := range ports {
		p := newPair(t, api.GuestConf{Vcpus: 1, Pages: 3, Devs: devs, Image: b})
		p.runs(list[:len(list)-1])
		was := p.m.Memory(1)
		p.in(port, frame)
		got, want := p.m.Memory(1), slices.Clone(was)
		switch port {
		case 1:
			copy(want[0x400:], frame)
			copy(want[512+2:], []byte{1, 0, 0, 0, 0, 0, byte(len(frame))})
		case 4:
			copy(want[0xc00:], append([]byte{10: 1, 11: 0}, frame...))
			copy(want[0x800+512+2:], []byte{1, 0, 0, 0, 0, 0, byte(12 + len(frame))})
		}
		if !bytes.Equal(got, want) {
			t.Errorf("P19.2: what came in at port %d", port)
		}
	}
}

// P19.2: a LabelDma is one step of the engine over the machine's memory, whose message comes as an interrupt; a
// LabelUnplug takes the engine away.
func TestEngine(t *testing.T) {
	devs := []int{api.DevConsole, api.DevEngine}
	list := join(finds(2), copies(1, base+8, base+pageSize+16, 16, 5), poke(intcLets, 4, 1<<21), csrw(sie, 0x200), one(wfi))
	conf := api.GuestConf{Vcpus: 1, Pages: 2, Devs: devs, Image: image(list)}
	p := newPair(t, conf)
	p.runs(list)
	dma := api.Label{Kind: api.LabelDma}
	want := make([]byte, pageSize)
	for i := range 2 {
		p.steps(0, 1)
		if p.vcpu(0).State != api.Waiting || p.m.Peek(0).Kind != -1 {
			t.Errorf("P19.2: the message came behind %d steps", i)
		}
		p.do(dma)
		copy(want[16:], conf.Image[8:16+8*i])
		if !bytes.Equal(p.m.Memory(1), want) {
			t.Errorf("P19.2: the memory behind %d steps", i+1)
		}
	}
	if p.m.Peek(0).Kind == -1 {
		t.Error("P19.2: no message")
	}
	p.do(dma)
	p.steps(0, 1)
	if p.vcpu(0).State != api.Running || p.hart(0).Sip != 0x200 {
		t.Errorf("P19.2: %+v", p.vcpu(0))
	}
	p = newPair(t, conf)
	p.runs(list)
	p.do(dma)
	p.do(api.Label{Kind: api.LabelUnplug})
	p.do(api.Label{Kind: api.LabelUnplug})
	p.do(dma)
	p.steps(0, 1)
	if !bytes.Equal(p.m.Memory(1)[24:], make([]byte, pageSize-24)) || p.m.Peek(0).Kind != -1 {
		t.Error("P19.2: an engine that is gone copies")
	}
}

// P19.2: an engine that goes over the end of memory, or below its beginning, has failed there: it is flat over the
// machine's memory.
func TestEngineFlat(t *testing.T) {
	for _, x := range []struct {
		src, dst uint64
		done     int
	}{{base, base + pageSize, 2}, {base, base + 2*pageSize - 8, 1}, {base + 2*pageSize - 8, base + pageSize, 1}, {0, base + pageSize, 0}, {base, base - 8, 0}, {base - 8, base + pageSize, 0}, {api.UartBase, base + pageSize, 0}} {
		list := join(finds(1), copies(0, x.src, x.dst, 16, 0), peek(7, bar(0)+0x20, 8, true))
		p := newPair(t, api.GuestConf{Vcpus: 1, Pages: 2, Devs: []int{api.DevEngine}, Image: image(list)})
		p.runs(list[:len(list)-1])
		p.do(api.Label{Kind: api.LabelDma})
		p.do(api.Label{Kind: api.LabelDma})
		p.steps(0, 1)
		want := uint64(3)
		if x.done == 2 {
			want = 2
		}
		if got := p.hart(0).X[7]; got != want {
			t.Errorf("P19.1: from %#x to %#x the status is %d", x.src, x.dst, got)
		}
		if got := p.m.Memory(1)[:8]; x.dst == base+pageSize && x.done > 0 && x.src == base && !bytes.Equal(got, p.m.Memory(0)[:8]) {
			t.Errorf("P19.1: % x was copied", got)
		}
	}
}

// P19.2: without an engine its labels do nothing.
func TestNoEngine(t *testing.T) {
	for _, devs := range [][]int{nil, {api.DevConsole}, {api.DevNet, api.DevBlk, api.DevConsole}} {
		p := newPair(t, api.GuestConf{Vcpus: 1, Pages: 1, Devs: devs, Image: image(one(stay))})
		was := p.m.See()
		for _, n := range []int{0, 1, -1} {
			p.do(api.Label{Kind: api.LabelDma, N: n})
			p.do(api.Label{Kind: api.LabelUnplug, N: n})
		}
		sameSight(t, "P19.2", p.m.See(), was)
	}
}
