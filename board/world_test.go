package board_test

import (
	"bytes"
	"math"
	"math/rand"
	"reflect"
	"slices"
	"testing"

	"citadel/api"
	"citadel/board"
	"citadel/engine"
	"citadel/frame"
	"citadel/iommu"
	"citadel/ram"
	"citadel/stage"
	"citadel/virtq"
)

const (
	ones   = math.MaxUint64
	page   = api.PageSize
	sector = 512

	// Registers of the UART.
	uartData = api.UartBase
	uartIER  = api.UartBase + 1
	uartCaus = api.UartBase + 2
	uartLCR  = api.UartBase + 3
	uartMCR  = api.UartBase + 4
	uartLine = api.UartBase + 5
	uartSCR  = api.UartBase + 7

	// Registers of the interrupt controller: hart 0's.
	intcUp    = api.IntcBase
	intcLets  = api.IntcBase + 0x1000
	intcClaim = api.IntcBase + 0x2000

	// A slot's command and base, and the command's bit by which its registers are found.
	command = 0x04
	base    = 0x10
	answers = 2

	// Registers of a virtio device.
	selQueue  = 0x30
	sizeReg   = 0x38
	readyReg  = 0x44
	noticeReg = 0x50
	intsReg   = 0x60
	ackReg    = 0x64
	statusReg = 0x70
	descReg   = 0x80
	availReg  = 0x90
	usedReg   = 0xa0
	lastReg   = 0x1fc

	// Registers of the engine.
	srcReg     = 0x00
	dstReg     = 0x08
	lenReg     = 0x10
	controlReg = 0x18
	doneReg    = 0x20
	msiReg     = 0x28
	dataReg    = 0x30

	// Pages of a guest's memory: the queues' (two for each slot), then data.
	dataPage  = 8
	homePages = 32

	queueSize = 8
)

// kinds are all kinds of devices of a board.
var kinds = []int{api.DevNet, api.DevBlk, api.DevConsole, api.DevEngine}

// notPorts are numbers of no port, of whatever board.
var notPorts = []int{-1, -2, -8, 5, 6, 8, 9, 255, 256, 1 << 31, 1 << 32, 1<<32 + 1, -1 << 32, math.MaxInt, math.MaxInt - 1, math.MinInt, math.MinInt + 1, math.MinInt + 2}

// land is a guest's memory, and an engine that goes through what is between it and that.
type land struct {
	m    virtq.Mem
	host *ram.RAM
	u    *iommu.IOMMU // nil: nothing is between
	e    *engine.Engine
	home uint64 // from there on it has homePages that may be written
}

// newFlat is a land whose memory is a RAM.
func newFlat(t *testing.T, from uint64) *land {
	t.Helper()
	m, e := ram.New(from, homePages)
	if e != api.OK {
		t.Fatalf("no memory: %d", e)
	}
	return &land{m, m, nil, engine.Flat(m), from}
}

// newSpace is a land whose memory is a Space, whose frames lie the other way round, with a page behind that is not
// written. The engine is device 3 of an IOMMU, whose messages go where tells.
func newSpace(t *testing.T, tells func(index int) api.Msi) *land {
	t.Helper()
	host, _ := ram.New(0, 48)
	p, _ := frame.New(host, homePages+2, 1)
	s, e := stage.New(host, p, 1)
	if e != api.OK {
		t.Fatalf("no space: %d", e)
	}
	const first = api.RamBase / page
	for i := range homePages {
		s.Map(uint64(first+i), homePages-1-i, api.PteR|api.PteW|api.PteX)
	}
	s.Map(first+homePages, homePages, api.PteR)
	u, _ := iommu.New(host, 4)
	u.Ring((homePages + 1) * page)
	u.Set(3, s.Root())
	for i := range 32 {
		u.Remap(3, uint64(i), tells(i))
	}
	d, e := engine.New(3, host, u)
	if e != api.OK {
		t.Fatalf("no engine: %d", e)
	}
	return &land{s, host, u, d, api.RamBase}
}

// lands are memories of all kinds, each new.
var lands = []func(t *testing.T) *land{
	func(t *testing.T) *land { return newFlat(t, 0) },
	func(t *testing.T) *land { return newFlat(t, api.RamBase) },
	func(t *testing.T) *land {
		return newSpace(t, func(index int) api.Msi { return api.Msi{Guest: 5, Irq: index} })
	},
}

// all is all bytes of its host.
func (l *land) all() []byte {
	b, _ := l.host.Bytes(l.host.Base(), l.host.Frames()*page)
	return b
}

// pair is a board under test and the chapter's, each in a land of its own with the same bytes, of which the same is
// asked.
type pair struct {
	t    *testing.T
	b    *board.Board
	c    *chapter
	l, r *land
	now  uint64
	used [4][2]int // how many chains each queue of each slot was offered
}

// newPair is one that is new.
func newPair(t *testing.T, harts int, devs []int, disk []byte, home func(t *testing.T) *land) *pair {
	t.Helper()
	p := &pair{t: t, l: home(t), r: home(t), now: 3<<32 | 5}
	b, e := board.New(harts, devs, disk, p.l.e)
	if b == nil || e != api.OK {
		t.Fatalf("P16.1: New(%d, %v, %d bytes) = %v, %d", harts, devs, len(disk), b, e)
	}
	p.b, p.c = b, newChapter(harts, devs, disk, p.r.e)
	p.same()
	return p
}

// found is one whose slots' registers are found, slot i's at bar(i).
func found(t *testing.T, devs []int, home func(t *testing.T) *land) *pair {
	t.Helper()
	p := newPair(t, 2, devs, diskOf(devs, 2), home)
	for i := range devs {
		p.on(i, bar(i))
	}
	return p
}

// bar is where slot i's registers are, if nobody says otherwise.
func bar(i int) uint64 { return 0x40000000 + uint64(i)*page }

// space is where slot i's space begins.
func space(i int) uint64 { return api.PciBase + uint64(i)*page }

// on has a slot's registers be found at an address.
func (p *pair) on(slot int, at uint64) {
	p.t.Helper()
	p.write(space(slot)+base, 4, at)
	p.write(space(slot)+command, 2, answers)
}

// slot is the slot of a kind's device.
func (p *pair) slot(kind int) int { return slices.Index(p.c.kinds, kind) }

// read reads at an address of both.
func (p *pair) read(addr uint64, size int) (uint64, bool) {
	p.t.Helper()
	v, ok := p.b.Read(p.l.m, addr, size, p.now)
	want, is := p.c.read(addr, size, p.now)
	if v != want || ok != is {
		p.t.Fatalf("P16.2: Read(%#x, %d) = %#x, %v, not %#x, %v", addr, size, v, ok, want, is)
	}
	p.told()
	return v, ok
}

// reads fails if that is not read.
func (p *pair) reads(addr uint64, size int, want uint64) {
	p.t.Helper()
	if v, ok := p.read(addr, size); v != want || !ok {
		p.t.Fatalf("P16.2: Read(%#x, %d) = %#x, %v, not %#x", addr, size, v, ok, want)
	}
}

// refuses fails if a read or a write is not refused. What it turned in spite of that is seen by same.
func (p *pair) refuses(addr uint64, size int) {
	p.t.Helper()
	if v, ok := p.read(addr, size); v != 0 || ok {
		p.t.Fatalf("P16.2: Read(%#x, %d) = %#x, %v", addr, size, v, ok)
	}
	for _, v := range []uint64{0, 1, 0xff, ones} {
		if p.write(addr, size, v) {
			p.t.Fatalf("P16.2: Write(%#x, %d, %#x)", addr, size, v)
		}
	}
}

// write writes at an address of both.
func (p *pair) write(addr uint64, size int, v uint64) bool {
	p.t.Helper()
	ok, is := p.b.Write(p.l.m, addr, size, v), p.c.write(p.r.m, addr, size, v)
	if ok != is {
		p.t.Fatalf("P16.2: Write(%#x, %d, %#x) = %v", addr, size, v, ok)
	}
	p.told()
	return ok
}

// set writes 4 bytes at an address that takes them.
func (p *pair) set(addr, v uint64) {
	p.t.Helper()
	if !p.write(addr, 4, v) {
		p.t.Fatalf("P16.2: Write(%#x) = false", addr)
	}
}

// in is what comes in to both.
func (p *pair) in(port int, b []byte) bool {
	p.t.Helper()
	was := bytes.Clone(b[:cap(b)])
	ok, is := p.b.In(p.l.m, port, b), p.c.in(p.r.m, port, b)
	if ok != is {
		p.t.Fatalf("P16.4: In(%d, %d bytes) = %v", port, len(b), ok)
	}
	if !bytes.Equal(was, b[:cap(b)]) {
		p.t.Fatal("R3: In turned what was handed in")
	}
	p.told()
	return ok
}

// dma is a step of both engines.
func (p *pair) dma() bool {
	p.t.Helper()
	ok, is := p.b.Dma(), p.c.dma()
	if ok != is {
		p.t.Fatalf("P16.4: Dma = %v", ok)
	}
	p.told()
	return ok
}

// unplug takes the engines away.
func (p *pair) unplug() bool {
	p.t.Helper()
	ok, is := p.b.Unplug(), p.c.unplug()
	if ok != is {
		p.t.Fatalf("P16.4: Unplug = %v", ok)
	}
	p.told()
	return ok
}

// put sends a byte by both UARTs.
func (p *pair) put(v byte) {
	p.t.Helper()
	p.b.Put(v)
	p.c.put(v)
	p.told()
}

// take takes the frames that both cards have sent.
func (p *pair) take() [][]byte {
	p.t.Helper()
	got, want := p.b.Take(), p.c.take()
	if len(got)+len(want) > 0 && !reflect.DeepEqual(got, want) {
		p.t.Fatalf("P16.4: Take = %v, not %v", got, want)
	}
	return got
}

// told fails if another hart is pending than must be.
func (p *pair) told() {
	p.t.Helper()
	for hart := -1; hart <= p.c.harts; hart++ {
		if got, want := p.b.Pending(hart), p.c.intc.Pending(hart); got != want {
			p.t.Fatalf("P16.3: Pending(%d) = %v", hart, got)
		}
	}
}

// up are the sources that are up.
func (p *pair) up() uint64 {
	p.t.Helper()
	v, ok := p.read(intcUp, 4)
	if !ok {
		p.t.Fatal("P16.2: the controller does not answer")
	}
	return v
}

// ups fails if other sources than these are up.
func (p *pair) ups(sources ...int) {
	p.t.Helper()
	var want uint64
	for _, s := range sources {
		want |= 1 << s
	}
	if got := p.up(); got != want {
		p.t.Fatalf("P16.3: up are %#x, not %#x", got, want)
	}
}

// same fails if something that both tell without turning is not the same, or the memories have not the same bytes.
func (p *pair) same() {
	p.t.Helper()
	p.up()
	for hart := range uint64(p.c.harts) {
		p.read(intcLets+4*hart, 4)
	}
	for _, off := range []uint64{1, 3, 4, 6, 7} {
		p.read(api.UartBase+off, 1)
	}
	p.read(api.ClockBase+4, 4)
	for slot := range 8 {
		for off := uint64(0); off < 256; off += 4 {
			p.read(space(slot)+off, 4)
		}
		if at, on := p.c.bus.Bar(slot); on {
			p.registers(at)
		}
	}
	for _, x := range []struct {
		name      string
		got, want []byte
	}{{"Uart", p.b.Uart(), p.c.uartSent()}, {"Console", p.b.Console(), p.c.console()}, {"Disk", p.b.Disk(), p.c.disk()}, {"the memory", p.l.all(), p.r.all()}} {
		if !bytes.Equal(x.got, x.want) {
			p.t.Fatalf("P16.4: %s is not as it must be (%d bytes, %d)", x.name, len(x.got), len(x.want))
		}
	}
	p.told()
}

// registers are held against each other, from a slot's base on.
func (p *pair) registers(at uint64) {
	p.t.Helper()
	for off := uint64(0); off <= lastReg+4; off += 4 {
		addr := at + off
		if addr < uartData || addr > uartSCR { // there reading turns
			p.read(addr, 4)
		}
	}
}

// poke writes a number into both memories, as a guest does.
func (p *pair) poke(at uint64, n int, v uint64) {
	p.t.Helper()
	if !p.l.m.Write(at, n, v) || !p.r.m.Write(at, n, v) {
		p.t.Fatalf("no place at %#x", at)
	}
}

// fill writes bytes into both memories.
func (p *pair) fill(at uint64, b []byte) {
	p.t.Helper()
	for i, v := range b {
		p.poke(at+uint64(i), 1, uint64(v))
	}
}

// peek are bytes of the memory.
func (p *pair) peek(at uint64, n int) []byte {
	p.t.Helper()
	b := make([]byte, n)
	for i := range b {
		v, ok := p.l.m.Read(at+uint64(i), 1)
		if !ok {
			p.t.Fatalf("no byte at %#x", at)
		}
		b[i] = byte(v)
	}
	return b
}

// queueAt is where a queue of a slot's lies: its descriptors, its available ring 0x400 behind, its used ring 0x800.
func (p *pair) queueAt(slot, q int) uint64 { return p.l.home + uint64(2*slot+q)*page }

// dataAt is where the data of a chain lies: what is read, and what is written 2048 behind.
func (p *pair) dataAt(slot, q, chain int) uint64 {
	return p.l.home + (dataPage+uint64(4*slot+2*q+chain%2))*page
}

// begin makes the queues of a slot's device ready, and sets its driver to work.
func (p *pair) begin(slot int) {
	p.t.Helper()
	at, _ := p.c.bus.Bar(slot)
	p.used[slot] = [2]int{}
	p.set(at+statusReg, 0)
	for q := range 2 {
		from := p.queueAt(slot, q)
		p.poke(from+0x400, 4, 0)
		p.set(at+selQueue, uint64(q))
		p.set(at+sizeReg, queueSize)
		for reg, off := range map[uint64]uint64{descReg: 0, availReg: 0x400, usedReg: 0x800} {
			p.set(at+reg, (from+off)&0xffffffff)
			p.set(at+reg+4, (from+off)>>32)
		}
		p.set(at+readyReg, 1)
	}
	p.set(at+statusReg, 4)
}

// offer makes a chain of a slot's queue available: of bytes to read, and of room for so many.
func (p *pair) offer(slot, q int, read []byte, room int) {
	p.t.Helper()
	n := p.used[slot][q]
	head := 2 * n % queueSize
	from, data := p.queueAt(slot, q), p.dataAt(slot, q, n)
	p.fill(data, read)
	p.poke(from+16*uint64(head), 8, data)
	p.poke(from+16*uint64(head)+8, 8, uint64(len(read))|1<<32|uint64(head+1)<<48)
	p.poke(from+16*uint64(head+1), 8, data+2048)
	p.poke(from+16*uint64(head+1)+8, 8, uint64(room)|2<<32)
	p.poke(from+0x400+4+2*uint64(n%queueSize), 2, uint64(head))
	p.used[slot][q]++
	p.poke(from+0x400+2, 2, uint64(p.used[slot][q]))
}

// notice tells a slot's device that a queue has chains.
func (p *pair) notice(slot, q int) {
	p.t.Helper()
	at, _ := p.c.bus.Bar(slot)
	p.set(at+noticeReg, uint64(q))
}

// rouse has a slot's virtio device want to interrupt: it gives a chain back.
func (p *pair) rouse(slot int) {
	p.t.Helper()
	p.begin(slot)
	q := 1
	if p.c.kinds[slot] == api.DevBlk {
		q = 0
	}
	p.offer(slot, q, make([]byte, 40), 1)
	p.notice(slot, q)
	at, _ := p.c.bus.Bar(slot)
	p.reads(at+intsReg, 4, 1)
}

// copying tells the engine of a copy of n bytes between two pages of data, with a message.
func (p *pair) copying(n int, index uint64) {
	p.t.Helper()
	at, _ := p.c.bus.Bar(p.slot(api.DevEngine))
	for reg, v := range map[uint64]uint64{srcReg: p.dataAt(0, 0, 0), dstReg: p.dataAt(1, 0, 0), lenReg: uint64(n), msiReg: api.MsiBase, dataReg: index} {
		if !p.write(at+reg, 8, v) {
			p.t.Fatalf("P16.2: no register %#x", reg)
		}
	}
	p.write(at+controlReg, 8, 1)
}

// pattern are n bytes, none of which is 0.
func pattern(n, seed int) []byte {
	b := make([]byte, n)
	for i := range b {
		b[i] = byte(1 + (i*7+i/251+seed*31)%255)
	}
	return b
}

// diskOf is a disk of so many sectors, where there is a device for it.
func diskOf(devs []int, sectors int) []byte {
	if slices.Contains(devs, api.DevBlk) {
		return pattern(sectors*sector, sectors)
	}
	return nil
}

// orders are all lists of some of these, each in each order.
func orders(of []int) [][]int {
	list := [][]int{nil}
	for i, x := range of {
		rest := append(slices.Clone(of[:i]), of[i+1:]...)
		for _, o := range orders(rest) {
			list = append(list, append([]int{x}, o...))
		}
	}
	return list
}

// some is one of a list, by chance.
func some[T any](r *rand.Rand, list ...T) T { return list[r.Intn(len(list))] }
