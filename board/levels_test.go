package board_test

import (
	"slices"
	"testing"

	"citadel/api"
)

// claims fails if a hart does not claim that source.
func (p *pair) claims(hart int, want uint64) {
	p.t.Helper()
	p.reads(intcClaim+4*uint64(hart), 4, want)
}

// complete completes a source.
func (p *pair) complete(hart int, source uint64) {
	p.t.Helper()
	p.set(intcClaim+4*uint64(hart), source)
}

// pends fails if other harts than these are pending.
func (p *pair) pends(harts ...int) {
	p.t.Helper()
	for h := -1; h < 66; h++ {
		if got := p.b.Pending(h); got != slices.Contains(harts, h) {
			p.t.Fatalf("P16.3: Pending(%d) = %v, not %v", h, got, harts)
		}
	}
}

// P16.3: the UART's level rises and falls behind whichever call turns its Irq: In, Write, Read.
func TestUartLevel(t *testing.T) {
	p := newPair(t, 2, []int{3, 8}, nil, lands[0])
	p.set(intcLets+4, 1<<1)
	p.in(0, []byte{7})
	p.pends()
	p.write(uartIER, 1, 1)
	p.pends(1)
	p.ups(1)
	p.reads(uartLine, 1, 0x61)
	p.pends(1)
	p.reads(uartData, 1, 7)
	p.pends()
	p.ups()
	p.in(0, []byte("ab"))
	p.pends(1)
	p.reads(uartData, 1, 'a')
	p.pends(1)
	p.write(uartCaus, 1, 2)
	p.pends()
	p.in(0, nil)
	p.pends()
	p.write(uartIER, 1, 2)
	p.pends(1)
	p.reads(uartCaus, 1, 2)
	p.pends()
	p.write(uartData, 1, 'x')
	p.pends(1)
	p.write(uartIER, 1, 4)
	p.pends()
	p.in(0, pattern(17, 1))
	p.pends(1)
	p.reads(uartLine, 1, 0x63)
	p.pends()
	p.ups()
	p.same()
}

// P16.3: a put turns nothing of the UART's level, up or not.
func TestUartLevelBehindPut(t *testing.T) {
	p := newPair(t, 1, nil, nil, lands[0])
	p.set(intcLets, 1<<1)
	p.put('a')
	p.pends()
	p.write(uartIER, 1, 2)
	p.pends(0)
	p.put('b')
	p.pends(0)
	p.reads(uartCaus, 1, 2)
	p.pends()
	p.put('c')
	p.pends()
	p.ups()
	p.write(uartData, 1, 'd')
	p.pends(0)
	p.put('e')
	p.pends(0)
	p.ups(1)
	p.reads(uartCaus, 1, 2)
	p.ups()
	if string(p.b.Uart()) != "abcde" {
		t.Errorf("P16.4: Uart = %q", p.b.Uart())
	}
}

// P16.3: source 8 + i is that of the device of slot i, in all orders of the devices; it rises when a chain is given
// back, and falls when the interrupt is taken away; the others stay.
func TestSlotLevels(t *testing.T) {
	for i, devs := range orders(kinds) {
		p := found(t, devs, lands[i%len(lands)])
		for hart := range uint64(2) {
			p.set(intcLets+4*hart, 0xfffffffe)
		}
		var up []int
		for slot, kind := range devs {
			if kind == api.DevEngine {
				continue
			}
			p.rouse(slot)
			up = append(up, 8+slot)
			p.ups(up...)
			p.pends(0, 1)
		}
		for _, source := range slices.Backward(slices.Clone(up)) {
			p.set(bar(source-8)+ackReg, 2)
			p.ups(up...)
			p.set(bar(source-8)+ackReg, 1)
			up = up[:len(up)-1]
			p.ups(up...)
		}
		p.pends()
		p.same()
	}
}

// P16.3: a device's level rises behind an In that is served at once, and falls by a reset of the device.
func TestSlotLevelBehindIn(t *testing.T) {
	for _, devs := range orders([]int{api.DevNet, api.DevConsole, api.DevEngine}) {
		p := found(t, devs, lands[2])
		p.set(intcLets, 0xfffffffe)
		for slot, kind := range devs {
			if kind == api.DevEngine {
				continue
			}
			p.begin(slot)
			p.offer(slot, 0, nil, 1600)
			p.ups()
			p.pends()
			if !p.in(1+slot, pattern(20, slot)) {
				t.Fatal("P16.4: In is false")
			}
			p.ups(8 + slot)
			p.pends(0)
			p.set(bar(slot)+statusReg, 0)
			p.ups()
			p.pends()
		}
		p.same()
	}
}

// P16.3: a queue that is dead interrupts as well: the interrupts' bit 1.
func TestSlotLevelOfADeadQueue(t *testing.T) {
	for slot := range 3 {
		p := found(t, []int{3, 2, 1}, lands[1])
		p.begin(slot)
		p.poke(p.queueAt(slot, 0)+0x402, 2, 100)
		if slot != 1 {
			p.in(1+slot, pattern(14, 1))
		}
		p.notice(slot, 0)
		p.reads(bar(slot)+intsReg, 4, 2)
		p.ups(8 + slot)
		p.set(bar(slot)+ackReg, 1)
		p.ups(8 + slot)
		p.set(bar(slot)+ackReg, 2)
		p.ups()
	}
}

// P16.3: a level that is up is claimed by one hart, and comes again behind its completion, as long as it is up.
func TestLevelsAreClaimed(t *testing.T) {
	p := found(t, []int{8, 3}, lands[0])
	p.set(intcLets, 1<<9)
	p.set(intcLets+4, 1<<9|1<<1)
	p.rouse(1)
	p.write(uartIER, 1, 1)
	p.pends(0, 1)
	p.claims(0, 9)
	p.pends()
	p.in(0, []byte{1})
	p.pends(1)
	p.claims(1, 1)
	p.claims(1, 0)
	p.ups(1, 9)
	p.complete(1, 9)
	p.pends()
	p.complete(0, 9)
	p.pends(0, 1)
	p.claims(0, 9)
	p.set(bar(1)+ackReg, 1)
	p.complete(0, 9)
	p.pends()
	p.complete(1, 1)
	p.pends(1)
	p.reads(uartData, 1, 1)
	p.pends()
	p.ups()
}

// P16.3: the engine's slot has no level, whatever the engine is in.
func TestEngineHasNoLevel(t *testing.T) {
	for _, devs := range orders(kinds) {
		if !slices.Contains(devs, api.DevEngine) {
			continue
		}
		p := found(t, devs, lands[0])
		at := bar(p.slot(api.DevEngine))
		p.copying(16, 99)
		for range 4 {
			p.ups()
			p.dma()
		}
		p.reads(at+doneReg, 8, 2)
		p.write(at+lenReg, 8, 3)
		p.write(at+controlReg, 8, 1)
		p.reads(at+doneReg, 8, 3)
		p.ups()
	}
}

// P16.4: a message pulses its source, when the copy is done: those of an engine without an IOMMU go from 16 on; each is
// up till it is claimed.
func TestMessages(t *testing.T) {
	p := found(t, []int{2, 8}, lands[1])
	p.set(intcLets+4, 0xfffffffe)
	for index := range uint64(18) {
		p.copying(24, index)
		for range 2 {
			p.dma()
			p.ups()
			p.pends()
		}
		p.dma()
		if index >= 16 {
			p.ups()
			continue
		}
		p.ups(int(16 + index))
		p.pends(1)
		p.same()
		p.claims(0, 0)
		p.claims(1, 16+index)
		p.ups()
		p.pends()
		p.complete(1, 16+index)
		p.pends()
	}
}

// P16.4: through an IOMMU a message of any guest goes to whichever source it says: those from 1 to 31 are up, no others.
func TestMessagesAnywhere(t *testing.T) {
	irqs := []int{1, 2, 7, 8, 9, 10, 11, 12, 15, 16, 30, 31, 0, 32, 33, 64, -1, -16, 1<<32 + 5, -1 << 63}
	for _, guest := range []int{1, 2, 8, -1, 1 << 40} {
		p := found(t, []int{8, 3, 2}, func(t *testing.T) *land {
			return newSpace(t, func(index int) api.Msi {
				if index >= len(irqs) {
					return api.Msi{}
				}
				return api.Msi{Guest: guest, Irq: irqs[index]}
			})
		})
		p.set(intcLets, 0xfffffffe)
		for index, irq := range irqs {
			p.copying(8, uint64(index))
			p.ups()
			if !p.dma() {
				t.Fatal("P16.4: Dma is false")
			}
			if irq < 1 || irq > 31 {
				p.ups()
				p.pends()
				continue
			}
			p.read(uartSCR, 1)
			p.put('x')
			p.in(2, []byte("y"))
			p.ups(irq)
			p.pends(0)
			p.claims(0, uint64(irq))
			p.ups()
			p.complete(0, uint64(irq))
			p.pends()
		}
		p.copying(8, uint64(len(irqs)))
		p.dma()
		p.ups()
		p.same()
	}
}

// P16.4: a pulse of a source that has a level beside leaves that alone: behind the claim it is up as long as the level.
func TestPulseBesideLevel(t *testing.T) {
	p := found(t, []int{8, 3}, lands[2])
	p.set(intcLets, 0xfffffffe)
	p.copying(8, 9)
	p.dma()
	p.ups(9)
	p.rouse(1)
	p.ups(9)
	p.claims(0, 9)
	p.ups(9)
	p.set(bar(1)+ackReg, 1)
	p.ups()
	p.complete(0, 9)
	p.pends()
	p.copying(8, 1)
	p.dma()
	p.ups(1)
	p.write(uartIER, 1, 2)
	p.write(uartIER, 1, 0)
	p.ups(1)
	p.claims(0, 1)
	p.ups()
}

// P16.4: no message, no pulse: without an address for it, to another address, while it runs, and of a copy that fails as
// it begins; a copy that a table blocks sends one.
func TestNoMessage(t *testing.T) {
	p := found(t, []int{8}, lands[2])
	for _, to := range []uint64{0, 8, api.MsiBase + 8, 1<<32 + api.MsiBase} {
		p.copying(8, 20)
		p.write(bar(0)+controlReg, 8, 2)
		p.write(bar(0)+msiReg, 8, to)
		p.write(bar(0)+controlReg, 8, 1)
		p.dma()
		p.dma()
		p.ups()
	}
	p.copying(0, 20)
	p.dma()
	p.ups()
	p.reads(bar(0)+doneReg, 8, 3)
	p.copying(8, 21)
	p.write(bar(0)+controlReg, 8, 2)
	p.write(bar(0)+dstReg, 8, p.l.home+homePages*page)
	p.write(bar(0)+controlReg, 8, 1)
	p.dma()
	p.reads(bar(0)+doneReg, 8, 3)
	p.ups(21)
	var last api.Record
	for r, ok := p.l.u.Next(); ok; r, ok = p.l.u.Next() {
		last = r
	}
	if last.Dev != 3 || last.Addr != p.l.home+homePages*page {
		t.Errorf("the last record is %+v", last)
	}
	p.same()
}
