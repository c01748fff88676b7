package board_test

import (
	"bytes"
	"slices"
	"testing"

	"citadel/api"
)

// P16.4: port 0 is the UART's: each byte goes into it, in order; what it has no room for is lost; true in each case.
func TestInUart(t *testing.T) {
	for _, n := range []int{0, 1, 2, 15, 16, 17, 40, 5000} {
		p := newPair(t, 1, []int{3, 8}, nil, lands[0])
		if !p.in(0, pattern(n, 3)) || !p.in(0, nil) || !p.in(0, []byte{}) {
			t.Error("P16.4: In is false")
		}
		for i := range min(n, 16) {
			p.reads(uartData, 1, uint64(pattern(n, 3)[i]))
		}
		want := uint64(0x60)
		if n > 16 {
			want = 0x62
		}
		p.reads(uartLine, 1, want)
		p.reads(uartData, 1, 0)
		p.same()
	}
}

// P16.4: port 1 + i is that of the device of slot i: bytes to a console, frames to a card; false of a disk, of the
// engine, and of no slot.
func TestInSlots(t *testing.T) {
	for i, devs := range orders(kinds) {
		p := found(t, devs, lands[i%len(lands)])
		for slot, kind := range devs {
			for _, n := range []int{0, 1, 13, 14, 64, 65, 1514, 1515} {
				want := kind == api.DevNet && n >= 14 && n <= 1514 || kind == api.DevConsole && (n == 1 || n == 13 || n == 14)
				if got := p.in(1+slot, pattern(n, slot)); got != want {
					t.Errorf("P16.4: kind %d: In(%d bytes) = %v", kind, n, got)
				}
			}
		}
		for port := len(devs) + 1; port < len(devs)+10; port++ {
			if p.in(port, pattern(14, 1)) {
				t.Errorf("P16.4: In(%d) of %d slots", port, len(devs))
			}
		}
		for _, port := range notPorts {
			if p.in(port, pattern(14, 1)) || p.in(port, nil) {
				t.Errorf("P16.4: In(%d) of %d slots", port, len(devs))
			}
		}
		p.same()
	}
}

// P16.4: what comes in at a slot's port comes to the guest by the device's queue, to that one alone.
func TestInComes(t *testing.T) {
	for i, devs := range orders([]int{api.DevNet, api.DevConsole, api.DevBlk}) {
		p := found(t, devs, lands[i%len(lands)])
		for slot, kind := range devs {
			p.begin(slot)
			if kind != api.DevBlk {
				p.offer(slot, 0, nil, 1600)
			}
		}
		for slot, kind := range devs {
			if kind == api.DevBlk {
				continue
			}
			p.in(1+slot, pattern(60, slot))
			at := p.dataAt(slot, 0, 0) + 2048
			if kind == api.DevNet {
				at += 12
			}
			if got := p.peek(at, 60); !bytes.Equal(got, pattern(60, slot)) {
				t.Errorf("P16.4: kind %d: %v came in", kind, got)
			}
			p.same()
		}
	}
}

// R3: what comes in is not kept: who handed it in may write it again.
func TestInKeepsNothing(t *testing.T) {
	p := found(t, []int{1, 3}, lands[0])
	p.begin(0)
	p.begin(1)
	b := pattern(64, 5)
	for port := range 3 {
		p.in(port, b[:20:40])
	}
	spoil(b)
	for i := range 16 {
		p.reads(uartData, 1, uint64(pattern(64, 5)[i]))
	}
	for slot, head := range []uint64{12, 0} {
		p.offer(slot, 0, nil, 100)
		p.notice(slot, 0)
		if got := p.peek(p.dataAt(slot, 0, 0)+2048+head, 20); !bytes.Equal(got, pattern(64, 5)[:20]) {
			t.Errorf("R3: %v came in", got)
		}
	}
}

// P16.4: Dma is a step of the engine: eight bytes of a running copy; it says whether there is an engine, busy or not.
func TestDma(t *testing.T) {
	for _, home := range lands {
		for _, devs := range orders(kinds) {
			at := slices.Index(devs, api.DevEngine)
			if at < 0 {
				p := newPair(t, 1, devs, nil, home)
				for range 3 {
					if p.dma() {
						t.Errorf("P16.4: Dma of %v", devs)
					}
				}
				continue
			}
			p := found(t, devs, home)
			if !p.dma() {
				t.Error("P16.4: Dma of an engine that is idle is false")
			}
			p.fill(p.dataAt(0, 0, 0), pattern(32, 7))
			p.copying(32, 5)
			for n := 8; n <= 48; n += 8 {
				if !p.dma() {
					t.Error("P16.4: Dma is false")
				}
				done := min(n, 32)
				want := append(pattern(32, 7)[:done], make([]byte, 32-done)...)
				if got := p.peek(p.dataAt(1, 0, 0), 32); !bytes.Equal(got, want) {
					t.Fatalf("P16.4: behind %d bytes: %v", n, got)
				}
			}
			p.reads(bar(at)+doneReg, 8, 2)
			p.same()
		}
	}
}

// comes brings the engine to a status.
func (p *pair) comes(status uint64) {
	p.t.Helper()
	at, _ := p.c.bus.Bar(p.slot(api.DevEngine))
	switch status {
	case 1:
		p.copying(64, 1)
		p.dma()
	case 2:
		p.copying(8, 2)
		p.dma()
	case 3:
		p.copying(12, 3)
	}
	p.reads(at+doneReg, 8, status)
}

// P16.4: Unplug resets the engine, in whatever it is, and takes it away: no step, no registers, no space; once.
func TestUnplug(t *testing.T) {
	for i, devs := range orders(kinds) {
		slot := slices.Index(devs, api.DevEngine)
		if slot < 0 {
			p := found(t, devs, lands[0])
			if p.unplug() || p.unplug() {
				t.Errorf("P16.4: Unplug of %v", devs)
			}
			p.same()
			continue
		}
		for status := range uint64(4) {
			p := found(t, devs, lands[i%len(lands)])
			p.comes(status)
			was := p.l.all()
			if !p.unplug() {
				t.Error("P16.4: Unplug is false")
			}
			for reg := uint64(0); reg < 0x38; reg += 8 {
				if v, ok := p.l.e.Read(reg, 8); v != 0 || !ok {
					t.Errorf("P16.4: register %#x is %#x, %v", reg, v, ok)
				}
			}
			for range 2 {
				if p.l.e.Busy() || p.unplug() || p.dma() || p.in(1+slot, pattern(14, 1)) {
					t.Error("P16.4: the engine is still there")
				}
				p.refuses(bar(slot)+doneReg, 8)
				p.refuses(bar(slot), 4)
				p.same()
			}
			if !bytes.Equal(was, p.l.all()) {
				t.Error("P16.4: Unplug turns memory")
			}
		}
	}
}

// P16.4: behind Unplug the slot's space is as that of no slot: all ones by each size, whatever is written to it; the
// other slots are as they were.
func TestUnpluggedSpace(t *testing.T) {
	for _, devs := range orders(kinds) {
		slot := slices.Index(devs, api.DevEngine)
		if slot < 0 {
			continue
		}
		p := found(t, devs, lands[0])
		p.unplug()
		for off := range uint64(260) {
			for _, size := range append(slices.Clone(notSizes), sizes...) {
				may := off < 256 && slices.Contains([]int{1, 2, 4}, size) && off%uint64(size) == 0
				for _, v := range []uint64{0, ones, 2} {
					if got := p.write(space(slot)+off, size, v); got != may {
						t.Fatalf("P16.4: Write(%#x, %d) = %v", space(slot)+off, size, got)
					}
				}
				if !may {
					p.refuses(space(slot)+off, size)
					continue
				}
				p.reads(space(slot)+off, size, 1<<(8*size)-1)
			}
		}
		p.on(slot, bar(9))
		p.refuses(bar(9), 8)
		p.refuses(bar(slot), 8)
		p.refuses(0xfffff000, 8)
		for other, kind := range devs {
			if other != slot {
				p.reads(space(other)+0x2e, 2, uint64(kind))
				p.reads(bar(other)+8, 4, uint64(kind))
			}
		}
		p.same()
	}
}

// P16.4: behind Unplug Find tells a higher slot at the same base, which stood in the engine's shadow.
func TestUnpluggedFind(t *testing.T) {
	for _, devs := range orders(kinds) {
		slot := slices.Index(devs, api.DevEngine)
		if slot < 0 {
			continue
		}
		p := found(t, devs, lands[0])
		for i := range devs {
			p.write(space(i)+base, 4, bar(8))
		}
		p.read(bar(8)+8, 4)
		p.unplug()
		if len(devs) == 1 {
			p.refuses(bar(8)+8, 4)
			continue
		}
		next := devs[0]
		if slot == 0 {
			next = devs[1]
		}
		p.reads(bar(8)+8, 4, uint64(next))
		p.refuses(bar(8)+doneReg, 8)
		p.same()
	}
}

// P16.4: an engine that is unplugged before it was found anywhere is never found.
func TestUnpluggedEarly(t *testing.T) {
	p := newPair(t, 1, []int{8, 2}, nil, lands[0])
	p.write(space(0)+base, 4, bar(0))
	p.unplug()
	p.write(space(0)+command, 2, answers)
	p.refuses(bar(0), 4)
	p.on(1, bar(0))
	p.reads(bar(0)+8, 4, 2)
}

// P16.4: the message of an engine that is gone is still to be claimed; a message that was not sent is sent no more.
func TestUnpluggedMessage(t *testing.T) {
	p := found(t, []int{3, 8}, lands[1])
	p.set(intcLets, 0xfffffffe)
	p.copying(8, 4)
	p.dma()
	p.unplug()
	p.ups(20)
	p.pends(0)
	p.claims(0, 20)
	p.pends()
	q := found(t, []int{3, 8}, lands[1])
	q.copying(16, 4)
	q.dma()
	q.unplug()
	q.dma()
	q.ups()
}

// P16.4: an engine that is gone is its owner's: what that does with it is no board's.
func TestUnpluggedEngineIsLeftAlone(t *testing.T) {
	p := found(t, []int{8}, lands[0])
	p.unplug()
	for _, l := range []*land{p.l, p.r} {
		for reg, v := range map[uint64]uint64{srcReg: 0x9000, dstReg: 0xa000, lenReg: 16} {
			l.e.Write(reg, 8, v)
		}
		l.e.Write(controlReg, 8, 1)
	}
	if p.dma() || p.unplug() || !p.l.e.Busy() {
		t.Error("P16.4: the engine is looked at")
	}
	p.same()
}
