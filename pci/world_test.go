package pci_test

import (
	"math"
	"math/rand"
	"testing"

	"citadel/api"
	"citadel/pci"
)

const (
	ones = math.MaxUint64
	page = api.PageSize

	command = 0x04
	base    = 0x10
	line    = 0x3c
	answers = 2
)

// sizes are the sizes that may be.
var sizes = []int{1, 2, 4}

// notSizes are sizes that may not be.
var notSizes = []int{0, 3, 5, 6, 7, 8, 9, 12, 16, 32, 64, 128, 255, 256, 257, 4096, -1, -2, -3, -4, -8, -256, 1 << 31, 1 << 32, 1<<32 + 1, 1<<32 + 2, 1<<32 + 4, -1 << 32, math.MaxInt, math.MinInt, math.MinInt + 1, math.MinInt + 4}

// notOffsets are offsets behind a slot's bytes.
var notOffsets = []uint64{256, 257, 258, 259, 260, 264, 0x110, 511, 512, 0x13c, 4096, 4100, 1 << 16, 1 << 31, 1 << 32, 1<<32 + 4, 1<<32 + 16, 1 << 63, 1<<63 + 4, 1<<63 + 16, ones - 255, ones - 15, ones - 7, ones - 6, ones - 5, ones - 4, ones - 3, ones - 2, ones - 1, ones}

// notKinds are kinds that may not be.
var notKinds = []int{-1, -2, -128, -255, -256, 256, 257, 258, 511, 512, 1 << 16, 1 << 31, 1 << 32, 1<<32 + 2, -1 << 32, math.MaxInt, math.MinInt, math.MinInt + 2}

// notSlots are numbers of no slot, where there are so many.
func notSlots(n int) []int {
	return []int{-1, -2, -n - 1, -8, -256, math.MinInt, math.MinInt + 1, -1 << 32, n, n + 1, api.MaxDevs, api.MaxDevs + 1, 255, 256, 1 << 31, 1 << 32, 1<<32 + 1, math.MaxInt, math.MaxInt - 1}
}

// values are what is written, with bits above each size.
var values = []uint64{0, ones, 0xff, 0xffff, 0xffffffff, ones - 0xff, ones - 0xffff, ones - 0xffffffff, 0xaaaaaaaaaaaaaaaa, 0x5555555555555555, 0x0123456789abcdef, 0xfedcba9876543210, 1, 2, 4, 6, 0x40001000, 1 << 63}

// some is one of a list, by chance.
func some[T any](r *rand.Rand, list ...T) T { return list[r.Intn(len(list))] }

// pair is a bus under test and the chapter's, of which the same is asked.
type pair struct {
	t *testing.T
	b *pci.Bus
	c *bus
}

// newPair is one with devices of kinds that may be.
func newPair(t *testing.T, kinds ...int) *pair {
	t.Helper()
	b, e := pci.New(kinds)
	if b == nil || e != api.OK {
		t.Fatalf("P12.1: New(%v) = %v, %d", kinds, b, e)
	}
	return &pair{t: t, b: b, c: newBus(kinds)}
}

// read reads bytes of both.
func (p *pair) read(slot int, off uint64, size int) {
	p.t.Helper()
	got, ok := p.b.Read(slot, off, size)
	want, is := p.c.read(slot, off, size)
	if got != want || ok != is {
		p.t.Fatalf("P12.3: Read(%d, %#x, %d) = %#x, %v, not %#x, %v", slot, off, size, got, ok, want, is)
	}
}

// write writes bytes of both.
func (p *pair) write(slot int, off uint64, size int, v uint64) {
	p.t.Helper()
	if got, want := p.b.Write(slot, off, size, v), p.c.write(slot, off, size, v); got != want {
		p.t.Fatalf("P12.3: Write(%d, %#x, %d, %#x) = %v", slot, off, size, v, got)
	}
}

// on gives a slot a base, and has it answer there.
func (p *pair) on(slot int, at uint64) {
	p.t.Helper()
	p.write(slot, base, 4, at)
	p.write(slot, command, 2, answers)
}

// bar asks both for Bar.
func (p *pair) bar(slot int) {
	p.t.Helper()
	got, ok := p.b.Bar(slot)
	if want, is := p.c.bar(slot); got != want || ok != is {
		p.t.Fatalf("P12.3: Bar(%d) = %#x, %v, not %#x, %v", slot, got, ok, want, is)
	}
}

// find asks both whose registers are at an address.
func (p *pair) find(addr uint64) {
	p.t.Helper()
	slot, off, ok := p.b.Find(addr)
	if n, at, is := p.c.find(addr); slot != n || off != at || ok != is {
		p.t.Fatalf("P12.3: Find(%#x) = %d, %#x, %v, not %d, %#x, %v", addr, slot, off, ok, n, at, is)
	}
}

// around asks both at an address, and round the page that begins there.
func (p *pair) around(at uint64) {
	p.t.Helper()
	for _, addr := range []uint64{at, at + 1, at + 8, at + page/2, at + page - 1, at + page, at + page + 1, at - 1, at - page, at - page - 1, at + 1<<32, at - 1<<32, at + 1<<63} {
		p.find(addr)
	}
}

// bytes holds each byte of each slot of both against one another.
func (p *pair) bytes() {
	p.t.Helper()
	for n := range p.c.slots {
		for off := range uint64(256) {
			p.read(n, off, 1)
		}
	}
}

// same fails if something that both tell is not the same.
func (p *pair) same() {
	p.t.Helper()
	if got := p.b.Slots(); got != len(p.c.slots) {
		p.t.Fatalf("P12.1: Slots = %d, not %d", got, len(p.c.slots))
	}
	for n := -1; n <= len(p.c.slots); n++ {
		if got := p.b.Kind(n); got != p.c.kind(n) {
			p.t.Fatalf("P12.1: Kind(%d) = %d, not %d", n, got, p.c.kind(n))
		}
		p.bar(n)
		at, _ := p.c.bar(n)
		p.around(at)
	}
	p.bytes()
}

// reads fails if bytes of a bus do not read so.
func reads(t *testing.T, promise string, b *pci.Bus, slot int, off uint64, size int, want uint64) {
	t.Helper()
	if v, ok := b.Read(slot, off, size); !ok || v != want {
		t.Errorf("%s: Read(%d, %#x, %d) = %#x, %v, not %#x", promise, slot, off, size, v, ok, want)
	}
}

// finds fails if Find does not tell that slot.
func finds(t *testing.T, b *pci.Bus, addr uint64, slot int, off uint64) {
	t.Helper()
	if n, at, ok := b.Find(addr); !ok || n != slot || at != off {
		t.Errorf("P12.3: Find(%#x) = %d, %#x, %v, not %d, %#x", addr, n, at, ok, slot, off)
	}
}

// lost fails if Find tells a slot.
func lost(t *testing.T, b *pci.Bus, addr uint64) {
	t.Helper()
	if n, at, ok := b.Find(addr); ok || n != 0 || at != 0 {
		t.Errorf("P12.3: Find(%#x) = %d, %#x, %v", addr, n, at, ok)
	}
}

// bars fails if Bar is not that.
func bars(t *testing.T, b *pci.Bus, slot int, want uint64, on bool) {
	t.Helper()
	if at, ok := b.Bar(slot); at != want || ok != on {
		t.Errorf("P12.3: Bar(%d) = %#x, %v, not %#x, %v", slot, at, ok, want, on)
	}
}

// made is a bus with devices of kinds that may be.
func made(t *testing.T, kinds ...int) *pci.Bus {
	t.Helper()
	return newPair(t, kinds...).b
}
