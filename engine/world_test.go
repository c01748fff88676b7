package engine_test

import (
	"bytes"
	"encoding/binary"
	"math"
	"testing"

	"citadel/api"
	"citadel/engine"
	"citadel/iommu"
	"citadel/ram"
)

const (
	size = api.PageSize
	ones = math.MaxUint64
	full = api.PteV | api.PteR | api.PteW | api.PteU | api.PteA | api.PteD
)

// The registers, as the chapter lists them.
const (
	src     = 0x00
	dst     = 0x08
	length  = 0x10
	control = 0x18
	status  = 0x20
	msi     = 0x28
	data    = 0x30
	behind  = 0x38
)

const (
	idle = iota
	running
	done
	failed
)

// kept are the registers that hold what is written to them.
var kept = []uint64{src, dst, length, msi, data}

// bases are where a memory may begin.
var bases = []uint64{0, size, api.RamBase, 1 << 52}

// The frames of a world: its table's, those that its engine knows, the one that it may only read, and the ring.
const (
	table    = 1
	one      = 9
	two      = 10
	far      = 12
	readOnly = 13
	ringAt   = 15
	frames   = 16
)

// world is an engine under test, with its memory, and the IOMMU between, if there is one. The engine knows frame i as
// known(i); its messages of the indexes 0, 3 and 15 go somewhere.
type world struct {
	t *testing.T
	m *ram.RAM
	u *iommu.IOMMU
	*engine.Engine
	dev     int
	records int // how many records the ring holds
}

// flat is a world without an IOMMU.
func flat(t *testing.T, base uint64) *world {
	t.Helper()
	m := memory(t, base)
	return &world{t: t, m: m, Engine: engine.Flat(m)}
}

// through is a world with an IOMMU.
func through(t *testing.T, base uint64, dev int) *world {
	t.Helper()
	m := memory(t, base)
	u, e := iommu.New(m, 4)
	if e != api.OK {
		t.Fatal(e)
	}
	w := &world{t: t, m: m, u: u, dev: dev}
	for _, f := range []int{one, two, far} {
		w.lead(w.known(f), w.frame(f), full)
	}
	w.lead(w.known(readOnly), w.frame(readOnly), full&^api.PteW)
	w.lead(w.known(frames), w.frame(frames), full)
	w.ok(u.Set(dev, w.frame(table)))
	w.ok(u.Ring(w.at(ringAt)))
	for _, i := range []uint64{0, 3, 15} {
		w.ok(u.Remap(dev, i, w.sent(i)))
	}
	if w.Engine, e = engine.New(dev, m, u); e != api.OK || w.Engine == nil {
		t.Fatalf("P8.1: New(%d): %v, %d", dev, w.Engine, e)
	}
	return w
}

// memory is a memory whose bytes are all different from their neighbours, but for the tables.
func memory(t *testing.T, base uint64) *ram.RAM {
	t.Helper()
	m, e := ram.New(base, frames)
	if e != api.OK {
		t.Fatal(e)
	}
	for at := uint64(one * size); at < frames*size; at += 8 {
		m.Write(base+at, 8, at*0x9e3779b97f4a7c15)
	}
	return m
}

// each does something in worlds with an IOMMU and without.
func each(t *testing.T, do func(w *world)) {
	t.Helper()
	for _, base := range []uint64{0, api.RamBase, 1 << 52} {
		do(flat(t, base))
	}
	do(through(t, 0, api.MaxDevs-1))
	do(through(t, api.RamBase, 0))
	do(through(t, 1<<52, 3))
}

// frame is the page's number of a frame.
func (w *world) frame(i int) uint64 { return w.m.Base()/size + uint64(i) }

// at is the physical address of a frame.
func (w *world) at(i int) uint64 { return w.frame(i) * size }

// known is the address by which the engine knows a frame.
func (w *world) known(i int) uint64 {
	if w.Engine != nil && w.u == nil {
		return w.at(i)
	}
	return uint64(i-4) * size
}

// sent is where a message goes.
func (w *world) sent(index uint64) api.Msi {
	if w.Engine != nil && w.u == nil {
		return api.Msi{Guest: 1, Irq: 16 + int(index)}
	}
	return api.Msi{Guest: 2, Irq: 40 + int(index)}
}

// lead has the device's table lead from a page to a frame.
func (w *world) lead(addr, frame, bits uint64) {
	w.t.Helper()
	w.put(w.at(table), w.frame(table+1)<<10|api.PteV)
	w.put(w.at(table+1), w.frame(table+2)<<10|api.PteV)
	w.put(w.at(table+2)+8*(addr/size), frame<<10|bits)
}

// put writes 8 bytes at a physical address.
func (w *world) put(at, v uint64) {
	w.t.Helper()
	if !w.m.Write(at, 8, v) {
		w.t.Fatalf("no place at %#x", at)
	}
}

// peek are the 8 bytes at a physical address.
func (w *world) peek(at uint64) uint64 {
	w.t.Helper()
	v, ok := w.m.Read(at, 8)
	if !ok {
		w.t.Fatalf("no place at %#x", at)
	}
	return v
}

// ok fails if a call was refused.
func (w *world) ok(e api.Errno) {
	w.t.Helper()
	if e != api.OK {
		w.t.Fatalf("refused: %d", e)
	}
}

// set writes a register.
func (w *world) set(off, v uint64) {
	w.t.Helper()
	if !w.Write(off, 8, v) {
		w.t.Fatalf("P8.1: Write(%#x, 8, %#x) is refused", off, v)
	}
}

// holds fails if a register does not hold a number.
func (w *world) holds(promise string, off, want uint64) {
	w.t.Helper()
	if v, ok := w.Read(off, 8); !ok || v != want {
		w.t.Errorf("%s: Read(%#x, 8) = %#x, %v, not %#x", promise, off, v, ok, want)
	}
}

// is fails if status is another, or Busy does not say so.
func (w *world) is(promise string, want uint64) {
	w.t.Helper()
	w.holds(promise, status, want)
	if w.Busy() != (want == running) {
		w.t.Errorf("%s: Busy is %v in status %d", promise, w.Busy(), want)
	}
}

// registers are what all registers hold.
func (w *world) registers() (list [7]uint64) {
	w.t.Helper()
	for i := range list {
		v, ok := w.Read(uint64(8*i), 8)
		if !ok {
			w.t.Fatalf("P8.1: Read(%#x, 8) is refused", 8*i)
		}
		list[i] = v
	}
	return list
}

// keeps fails if the registers do not hold what they held.
func (w *world) keeps(promise string, was [7]uint64) {
	w.t.Helper()
	if now := w.registers(); now != was {
		w.t.Fatalf("%s: the registers are %x, not %x", promise, now, was)
	}
}

// copying is what an engine is told of a copy.
type copying struct{ src, dst, len, msi, data uint64 }

// ready tells the engine of a copy.
func (w *world) ready(c copying) {
	w.t.Helper()
	for off, v := range map[uint64]uint64{src: c.src, dst: c.dst, length: c.len, msi: c.msi, data: c.data} {
		w.set(off, v)
	}
}

// begin begins a copy.
func (w *world) begin(c copying) {
	w.t.Helper()
	w.ready(c)
	w.set(control, 1)
	w.is("P8.1", running)
}

// come brings the engine to a status, whatever it is in. It then holds a copy that may begin.
func (w *world) come(to uint64) {
	w.t.Helper()
	c := copying{src: w.known(one), dst: w.known(two), len: 8}
	w.Reset()
	switch to {
	case done:
		w.begin(c)
		w.Step()
	case failed:
		w.set(control, 1)
	}
	w.ready(c)
	if to == running {
		w.set(control, 1)
	}
	w.is("P8.1", to)
}

// change is what bytes of the memory become.
type change struct {
	at uint64
	b  []byte
}

// word is 8 bytes that become a number.
func word(at, v uint64) change { return change{at, binary.LittleEndian.AppendUint64(nil, v)} }

// record is a record of a blocked access, which goes behind the last one; none without an IOMMU.
func (w *world) record(kind int, addr uint64) change {
	if w.u == nil {
		return change{at: w.m.Base()}
	}
	b := binary.LittleEndian.AppendUint32(nil, uint32(w.dev))
	b = binary.LittleEndian.AppendUint32(b, uint32(kind))
	w.records++
	return change{w.at(ringAt) + uint64(w.records-1)%api.RingSize*16, binary.LittleEndian.AppendUint64(b, addr)}
}

// all are the memory's bytes.
func (w *world) all() []byte {
	w.t.Helper()
	b, ok := w.m.Bytes(w.m.Base(), w.m.Frames()*size)
	if !ok {
		w.t.Fatal("no bytes")
	}
	return b
}

// turned fails if the memory is not as it was, but for the changes.
func (w *world) turned(promise string, was []byte, changes ...change) {
	w.t.Helper()
	for _, c := range changes {
		copy(was[c.at-w.m.Base():], c.b)
	}
	now := w.all()
	if !bytes.Equal(now, was) {
		i := 0
		for now[i] == was[i] {
			i++
		}
		w.t.Fatalf("%s: the byte at %#x is %#x, not %#x", promise, w.m.Base()+uint64(i), now[i], was[i])
	}
	if w.u != nil && w.u.Overflow() {
		w.t.Errorf("%s: the flag is set", promise)
	}
}

// quiet fails if a step sends a message, or turns anything but the changes.
func (w *world) quiet(promise string, changes ...change) {
	w.t.Helper()
	was := w.all()
	if to, ok := w.Step(); ok || to != (api.Msi{}) {
		w.t.Errorf("%s: Step = %v, %v, but there is no message", promise, to, ok)
	}
	w.turned(promise, was, changes...)
}

// sends fails if a step does not send that message, or turns anything but the changes.
func (w *world) sends(promise string, want api.Msi, changes ...change) {
	w.t.Helper()
	was := w.all()
	if to, ok := w.Step(); !ok || to != want {
		w.t.Errorf("%s: Step = %v, %v, not %v", promise, to, ok, want)
	}
	w.turned(promise, was, changes...)
}

// still fails if a step, or more, of an engine that does not run does anything.
func (w *world) still(promise string) {
	w.t.Helper()
	was := w.registers()
	for range 3 {
		w.quiet(promise)
		w.keeps(promise, was)
	}
}
