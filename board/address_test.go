package board_test

import (
	"bytes"
	"math"
	"slices"
	"testing"

	"citadel/api"
	"citadel/ram"
)

// sizes are sizes that some device takes.
var sizes = []int{1, 2, 4, 8}

// notSizes are sizes that no device takes.
var notSizes = []int{0, 3, 5, 6, 7, 9, 12, 16, 32, 255, 256, 257, 4096, -1, -2, -4, -8, 1 << 31, 1 << 32, 1<<32 + 1, 1<<32 + 4, -1 << 32, math.MaxInt, math.MinInt, math.MinInt + 1, math.MinInt + 4}

// nowhere are addresses where nobody stands while no slot is found: round each place, at its number with another high
// half, and at both ends.
var nowhere = []uint64{
	0, 1, 4, 0xfff, 0x1000, 0x0bfffff8, 0x0bfffffc, 0x0bffffff, 0x0c004000, 0x0c004004, 0x0c005000, 0x0c00c000, 0x0d000000, 0x0fffffff, 0x0ffffffc,
	0x10000008, 0x10000009, 0x1000000c, 0x10000010, 0x10000080, 0x10000100, 0x10000fff, 0x10000ffc, 0x10002000, 0x10002004, 0x10003000, 0x10010000,
	0x2fffffff, 0x2ffffffc, 0x2ffff000, 0x30008000, 0x30008004, 0x30009000, 0x30010000, 0x30010010, 0x40000000, 0x40000008, 0x7fffffff, 0x80000000, 0xfee00000, 0xfffff000,
	0x10c000000, 0x110000000, 0x110000005, 0x110001000, 0x130000000, 0x130007000, 1<<63 + 0x10000005, 1<<63 + 0x30000000, 1 << 63, ones - 0xfff, ones - 7, ones - 3, ones,
}

// P16.2: the UART has eight registers of size 1, each as plat says.
func TestUartRegisters(t *testing.T) {
	for _, lcr := range []uint64{0, 0x80, 0x83} {
		p := newPair(t, 2, nil, nil, lands[0])
		p.in(0, []byte("abc"))
		p.write(uartLCR, 1, lcr)
		for off := range uint64(8) {
			for _, v := range []uint64{0, 1, 0x55, 0xaa, 0xff, 0x100, 0x1ff, ones, 1 << 63, 0x0123456789abcd03} {
				if off == 3 {
					v = v&^0x80 | lcr
				}
				if !p.write(api.UartBase+off, 1, v) {
					t.Errorf("P16.2: Write of register %d is refused", off)
				}
				if _, ok := p.read(api.UartBase+off, 1); !ok {
					t.Errorf("P16.2: Read of register %d is refused", off)
				}
			}
			p.same()
		}
	}
}

// P16.2: the UART's registers are told as bytes: what is written, and what is read of them.
func TestUartBytes(t *testing.T) {
	p := newPair(t, 2, nil, nil, lands[0])
	p.write(uartSCR, 1, 0x1234)
	p.reads(uartSCR, 1, 0x34)
	p.write(uartMCR, 1, ones)
	p.reads(uartMCR, 1, 0x1f)
	p.write(uartData, 1, 0x4141414141414142)
	p.in(0, []byte{0xff, 0})
	p.reads(uartLine, 1, 0x61)
	p.reads(uartData, 1, 0xff)
	p.reads(uartData, 1, 0)
	p.reads(uartLine, 1, 0x60)
	if got := p.b.Uart(); string(got) != "B" {
		t.Errorf("P16.4: Uart = %q", got)
	}
}

// P16.2, P16.5: the UART by another size is refused, with nothing taken out of it, sent or written.
func TestUartSizes(t *testing.T) {
	p := newPair(t, 2, nil, nil, lands[0])
	p.in(0, []byte("ab"))
	p.write(uartIER, 1, 7)
	p.write(uartSCR, 1, 9)
	for off := range uint64(8) {
		for _, size := range append(slices.Clone(notSizes), 2, 4, 8) {
			p.refuses(api.UartBase+off, size)
		}
	}
	p.same()
	p.reads(uartData, 1, 'a')
	p.reads(uartCaus, 1, 4)
	p.reads(uartData, 1, 'b')
	p.reads(uartCaus, 1, 2)
	if len(p.b.Uart()) != 0 {
		t.Errorf("P16.5: %q was sent", p.b.Uart())
	}
}

// P16.2: the clock tells the time of the call, low half and kept high half, by size 4, at its first two registers.
func TestClock(t *testing.T) {
	p := newPair(t, 1, nil, nil, lands[0])
	p.now = 5<<32 | 6
	p.reads(api.ClockBase+4, 4, 0)
	for _, now := range []uint64{0, 1, 7<<32 | 9, 1<<32 - 1, 1 << 32, 1<<63 | 1, ones} {
		p.now = now
		p.reads(api.ClockBase, 4, now&0xffffffff)
		p.now = ^now
		for _, size := range append(slices.Clone(notSizes), 1, 2, 8) {
			p.refuses(api.ClockBase, size)
			p.refuses(api.ClockBase+4, size)
		}
		p.reads(api.ClockBase+4, 4, now>>32)
	}
}

// P16.2, P16.5: all else of the clock's page is refused, and what is written to it, by each size.
func TestClockRefuses(t *testing.T) {
	p := newPair(t, 1, nil, nil, lands[0])
	p.now = 7<<32 | 9
	p.read(api.ClockBase, 4)
	p.now = 8 << 32
	for off := range uint64(page) {
		for _, size := range sizes {
			if p.write(api.ClockBase+off, size, ones) {
				t.Fatalf("P16.2: Write(%#x, %d)", api.ClockBase+off, size)
			}
			if size != 4 || off > 4 || off%4 != 0 {
				p.refuses(api.ClockBase+off, size)
			}
		}
	}
	p.reads(api.ClockBase+4, 4, 7)
}

// P16.2: the controller's registers are plat's, over all its addresses; what it refuses is refused.
func TestController(t *testing.T) {
	p := newPair(t, 3, nil, nil, lands[0])
	taken := 0
	for off := uint64(0); off < api.IntcSize; off++ {
		for _, size := range sizes {
			addr := api.IntcBase + off
			if p.write(addr, size, ones-1) {
				taken++
			}
			p.read(addr, size)
		}
	}
	if taken != 6 {
		t.Errorf("P16.2: %d registers take a write, of three harts", taken)
	}
	for h := range uint64(3) {
		p.reads(intcLets+4*h, 4, 0xfffffffe)
	}
	for _, size := range notSizes {
		for _, off := range []uint64{0, 0x1000, 0x1004, 0x2000, 0x2008, 0x3000, 0x3ffc} {
			p.refuses(api.IntcBase+off, size)
		}
	}
	p.same()
}

// P16.2: each slot's space is pci's: all its offsets by each size, of slots that are there and of slots that are not.
func TestSpaces(t *testing.T) {
	for _, devs := range [][]int{nil, {8}, {2, 3}, {1, 8, 3, 2}} {
		p := newPair(t, 1, devs, diskOf(devs, 1), lands[0])
		for slot := range 8 {
			for off := range uint64(page) {
				addr := space(slot) + off
				for _, size := range sizes {
					_, ok := p.read(addr, size)
					if may := off < 256 && size != 8 && off%uint64(size) == 0; ok != may {
						t.Fatalf("P16.2: Read(%#x, %d) = %v", addr, size, ok)
					}
					if got := p.write(addr, size, off*0x0101010101010101); got != ok {
						t.Fatalf("P16.2: Write(%#x, %d) = %v", addr, size, got)
					}
				}
			}
			for _, size := range notSizes {
				p.refuses(space(slot), size)
				p.refuses(space(slot)+4, size)
			}
		}
		p.same()
	}
}

// P16.2: a slot's space is its own: what is written to one stands in no other.
func TestSpacesApart(t *testing.T) {
	p := newPair(t, 1, []int{3, 8, 2, 1}, nil, lands[0])
	for slot := range 8 {
		p.write(space(slot)+0x3c, 1, uint64(17+slot))
		p.write(space(slot)+base, 4, bar(slot))
	}
	for slot := range 8 {
		if slot < 4 {
			p.reads(space(slot)+0x3c, 1, uint64(17+slot))
			p.reads(space(slot)+base, 4, bar(slot))
			continue
		}
		p.reads(space(slot)+0x3c, 1, 0xff)
		p.reads(space(slot)+base, 4, 0xffffffff)
	}
}

// P16.2: behind a slot's base the registers of its device are found, all of them, by its sizes alone.
func TestRegisters(t *testing.T) {
	for i, devs := range orders(kinds) {
		p := found(t, devs, lands[i%len(lands)])
		for slot, kind := range devs {
			for off := range uint64(0x240) {
				for _, size := range sizes {
					_, ok := p.read(bar(slot)+off, size)
					may := size == 4 && off <= lastReg && off%4 == 0
					if kind == api.DevEngine {
						may = off < 0x38 && size >= 4 && off%uint64(size) == 0
					}
					if ok != may {
						t.Fatalf("P16.2: kind %d: Read(%#x, %d) = %v", kind, off, size, ok)
					}
					if !may {
						p.refuses(bar(slot)+off, size)
					}
				}
			}
			for _, size := range notSizes {
				for _, off := range []uint64{0, 4, 8, 0x70, 0xff8, 0xffc, 0xfff} {
					p.refuses(bar(slot)+off, size)
				}
			}
			for _, off := range []uint64{0x800, 0xff8, 0xffc, 0xfff} {
				for _, size := range sizes {
					p.refuses(bar(slot)+off, size)
				}
			}
		}
		p.same()
	}
}

// P16.2: what is written to a register comes to the device of that slot, and to no other.
func TestRegistersTaken(t *testing.T) {
	for i, devs := range orders(kinds) {
		p := found(t, devs, lands[i%len(lands)])
		for slot, kind := range devs {
			if kind == api.DevEngine {
				p.write(bar(slot)+srcReg, 8, 0x0123456789abcdef)
				p.reads(bar(slot)+srcReg+4, 4, 0x01234567)
				p.write(bar(slot)+dataReg, 4, 0xffffffffaaaaaaaa)
				p.reads(bar(slot)+dataReg, 8, 0xaaaaaaaa)
				continue
			}
			p.set(bar(slot)+statusReg, uint64(0x1100+16+slot))
		}
		for slot, kind := range devs {
			if kind != api.DevEngine {
				p.reads(bar(slot)+statusReg, 4, uint64(16+slot))
			}
		}
		p.same()
	}
}

// P16.2: a slot without the command's bit, or whose base is elsewhere, is found nowhere; it is where the guest last said.
func TestFound(t *testing.T) {
	for _, devs := range [][]int{{2}, {8}, {3, 8}, {8, 1}} {
		slot := len(devs) - 1
		p := newPair(t, 1, devs, nil, lands[1])
		p.write(space(slot)+base, 4, 0x50000fff)
		p.refuses(0x50000000, 4)
		for _, bits := range []uint64{1, 4, 5} {
			p.write(space(slot)+command, 2, bits)
			p.refuses(0x50000000, 4)
		}
		p.write(space(slot)+command, 2, 6)
		for _, at := range []uint64{0x50000000, 0x1000, 0x80000000, 0xfffff000, 0x0bffe000, 0x10002000, 0x30008000} {
			p.write(space(slot)+base, 4, at)
			p.reads(at+8, 4, map[int]uint64{1: 1, 2: 2, 3: 3, 8: 0}[devs[slot]])
			for _, off := range []uint64{page, page + 8, 1 << 32, 1 << 63} {
				p.refuses(at+off, 4)
			}
			p.refuses(at-4, 4)
			p.refuses(at+0xffc, 4)
		}
		p.write(space(slot)+base, 4, 0)
		p.refuses(8, 4)
		p.refuses(0xfffff008, 4)
	}
}

// P16.2: of slots at one base the lowest that is found answers, in all orders of the devices, whichever are found.
func TestLowestSlot(t *testing.T) {
	for _, devs := range orders(kinds) {
		if len(devs) < 4 {
			continue
		}
		p := newPair(t, 1, devs, nil, lands[0])
		for slot := range devs {
			p.write(space(slot)+base, 4, bar(0))
		}
		for bits := range 16 {
			lowest := -1
			for slot := 3; slot >= 0; slot-- {
				on := bits >> slot & 1
				p.write(space(slot)+command, 2, uint64(on*answers))
				if on == 1 {
					lowest = slot
				}
			}
			if lowest < 0 {
				p.refuses(bar(0), 4)
				continue
			}
			if v, ok := p.read(bar(0), 4); !ok || (v == 0x74726976) != (devs[lowest] != api.DevEngine) {
				t.Fatalf("P16.2: %v, of which %04b are found: %#x, %v", devs, bits, v, ok)
			}
			p.read(bar(0)+8, 4)
			p.write(bar(0)+statusReg, 4, uint64(16+bits))
			p.write(bar(0)+srcReg, 8, uint64(bits))
		}
		p.same()
	}
}

// P16.2: what stands for ever is the first that fits, wherever a guest lays its slots; what it leaves of a page is the
// slot's.
func TestLaidOver(t *testing.T) {
	for _, kind := range kinds {
		p := newPair(t, 2, []int{kind}, nil, lands[0])
		p.now = 6<<32 | 4
		p.on(0, api.UartBase)
		p.reads(uartLine, 1, 0x60)
		p.refuses(api.UartBase, 4)
		p.refuses(api.UartBase+4, 4)
		p.refuses(api.UartBase, 8)
		if kind == api.DevEngine {
			p.reads(api.UartBase+8, 8, 0)
		} else {
			p.reads(api.UartBase+8, 4, uint64(kind))
			p.reads(api.UartBase+0x0c, 4, 0x554d4551)
		}
		p.on(0, api.ClockBase)
		p.reads(api.ClockBase, 4, 4)
		p.reads(api.ClockBase+4, 4, 6)
		p.refuses(api.ClockBase+8, 4)
		p.refuses(api.ClockBase+0x10, 8)
		for at := uint64(api.IntcBase); at < api.IntcBase+api.IntcSize; at += page {
			p.on(0, at)
			p.refuses(at+8, 4)
			p.refuses(at+0x70, 4)
			p.refuses(at+8, 8)
		}
		p.reads(intcUp, 4, 0)
		for slot := range 8 {
			p.on(0, space(slot))
			p.refuses(space(slot)+0x100, 4)
			p.refuses(space(slot)+0x10, 8)
			want := uint64(0xffffffff)
			if slot == 0 {
				want = uint64(0x1040+kind)<<16 | 0x1af4
			}
			p.reads(space(slot), 4, want)
		}
		p.same()
	}
}

// P16.2, P16.5: where nobody stands all is refused, by each size, and nothing is turned.
func TestNowhere(t *testing.T) {
	for i, devs := range [][]int{nil, {2}, {8}, {8, 3, 2, 1}} {
		p := newPair(t, 2, devs, diskOf(devs, 2), lands[i%len(lands)])
		for _, addr := range nowhere {
			for _, size := range append(slices.Clone(notSizes), sizes...) {
				p.refuses(addr, size)
			}
		}
		p.same()
	}
}

// P16.2: a page of registers at a time, from 0 to the last one of 32 bits: just those that stand somewhere are read.
func TestWhoStandsWhere(t *testing.T) {
	p := found(t, []int{2, 8, 3, 1}, lands[2])
	count := 0
	for at := uint64(0); at < 1<<32; at += 8 * page {
		for _, off := range []uint64{0, 5, 8, page, 2 * page, 4 * page, 7 * page} {
			for _, size := range []int{1, 4, 8} {
				v, ok := p.b.Read(p.l.m, at+off, size, p.now)
				want, is := p.c.read(at+off, size, p.now)
				if v != want || ok != is {
					t.Fatalf("P16.2: Read(%#x, %d) = %#x, %v, not %#x, %v", at+off, size, v, ok, want, is)
				}
				if ok {
					count++
				}
			}
		}
	}
	if count < 20 {
		t.Errorf("only %d were there", count)
	}
	p.same()
}

// P16.2: m is the guest's memory of that call: a device serves its queue there, and nowhere else.
func TestMemoryOfTheCall(t *testing.T) {
	devs := []int{api.DevBlk, api.DevConsole}
	p := found(t, devs, lands[1])
	other, _ := ram.New(api.RamBase, homePages)
	for slot := range devs {
		p.begin(slot)
	}
	request := make([]byte, 16)
	p.offer(0, 0, request, sector+1)
	p.offer(1, 0, nil, 100)
	p.in(2, []byte("early"))
	all, _ := other.Bytes(api.RamBase, homePages*page)
	was := p.l.all()
	p.b.Read(other, bar(0)+noticeReg, 4, 0)
	p.b.Write(other, bar(0)+noticeReg, 4, 0)
	p.b.Write(other, bar(1)+noticeReg, 4, 0)
	p.b.In(other, 2, []byte("late"))
	if got, _ := other.Bytes(api.RamBase, homePages*page); !bytes.Equal(got, all) || !bytes.Equal(was, p.l.all()) {
		t.Error("P16.2: another memory was turned")
	}
	if !p.b.Write(p.l.m, bar(0)+noticeReg, 4, 0) {
		t.Error("P16.2: no register")
	}
	if got := p.peek(p.dataAt(0, 0, 0)+2048, sector); !bytes.Equal(got, pattern(2*sector, 2)[:sector]) {
		t.Error("P16.2: the sector is not where the guest wants it")
	}
	if got := p.peek(p.dataAt(1, 0, 0)+2048, 5); string(got) != "early" {
		t.Errorf("P16.4: %q came in", got)
	}
}
