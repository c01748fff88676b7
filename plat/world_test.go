package plat_test

import (
	"bytes"
	"math"
	"testing"

	"citadel/api"
	"citadel/plat"
)

const ones = math.MaxUint64

// noOffsets are offsets of no register of the UART.
var noOffsets = []uint64{8, 9, 10, 11, 12, 13, 14, 15, 16, 0x17, 0x20, 0x80, 0xff, 0x100, 0x101, 0x107, 0x1000, 1 << 16, 1 << 31, 1 << 32, 1<<32 + 1, 1<<32 + 5, 1 << 63, 1<<63 + 3, ones - 7, ones - 6, ones - 2, ones - 1, ones}

// call is a call of a UART, by the letter of its name: Read, Write, In.
type call struct {
	name byte
	off  uint64
	v    byte
}

// pair is a UART under test and the chapter's, of which the same is asked.
type pair struct {
	t   *testing.T
	u   *plat.Uart
	c   *uart
	did []call
}

// newPair is a pair at its beginning.
func newPair(t *testing.T) *pair {
	t.Helper()
	u := plat.NewUart()
	if u == nil {
		t.Fatal("P11.1: NewUart is nil")
	}
	return &pair{t: t, u: u, c: &uart{}}
}

// read reads a register of both.
func (p *pair) read(off uint64) byte {
	p.t.Helper()
	p.did = append(p.did, call{'R', off, 0})
	got, want := p.u.Read(off), p.c.read(off)
	if got != want {
		p.t.Fatalf("P11.1: Read(%#x) = %#x, not %#x, behind %v", off, got, want, p.did)
	}
	return got
}

// write writes a register of both.
func (p *pair) write(off uint64, v byte) {
	p.did = append(p.did, call{'W', off, v})
	p.u.Write(off, v)
	p.c.write(off, v)
}

// in is a byte that comes in to both.
func (p *pair) in(v byte) {
	p.did = append(p.did, call{'I', 0, v})
	p.u.In(v)
	p.c.in(v)
}

// do does a call.
func (p *pair) do(x call) {
	p.t.Helper()
	switch x.name {
	case 'R':
		p.read(x.off)
	case 'W':
		p.write(x.off, x.v)
	case 'I':
		p.in(x.v)
	}
}

// same fails if what is told without turning anything is not the same.
func (p *pair) same() {
	p.t.Helper()
	if p.u.Irq() != (p.c.cause() != 1) {
		p.t.Fatalf("P11.1: Irq = %v behind %v", p.u.Irq(), p.did)
	}
	if got := p.u.Out(); !bytes.Equal(got, p.c.sent) {
		p.t.Fatalf("P11.1: Out = %x, not %x, behind %v", got, p.c.sent, p.did)
	}
}

// reveal brings out all that both hold, and fails if it is not the same. What is revealed is turned on the way.
func (p *pair) reveal() {
	p.t.Helper()
	p.same()
	for _, off := range []uint64{3, 1, 4, 6, 7, 8, 2, 2} {
		p.read(off)
		p.same()
	}
	p.write(3, p.c.lcr^0x80)
	for _, off := range []uint64{1, 3, 2} {
		p.read(off)
		p.same()
	}
	p.write(3, 0x80)
	p.read(0)
	p.read(1)
	p.write(3, 0)
	for _, off := range []uint64{1, 5, 2, 5, 2, 2} {
		p.read(off)
		p.same()
	}
	for range 17 {
		p.read(0)
		p.read(5)
	}
	p.read(2)
	p.same()
}

// held are the registers that hold what is written, as they read, LCR's bit 7 set or not ahead of it; LCR is as it was.
func held(u *plat.Uart) (list [6]byte) {
	lcr := u.Read(3)
	u.Write(3, lcr|0x80)
	list[0], list[1] = u.Read(0), u.Read(1)
	u.Write(3, lcr&0x7f)
	list[2], list[3], list[4] = u.Read(1), u.Read(4), u.Read(7)
	u.Write(3, lcr)
	list[5] = u.Read(3)
	return list
}

// reads fails if a register of a UART does not read so.
func reads(t *testing.T, u *plat.Uart, off uint64, want byte) {
	t.Helper()
	if got := u.Read(off); got != want {
		t.Errorf("P11.1: Read(%#x) = %#x, not %#x", off, got, want)
	}
}

// wants fails if Irq is not that.
func wants(t *testing.T, u *plat.Uart, want bool) {
	t.Helper()
	if u.Irq() != want {
		t.Errorf("P11.1: Irq = %v", !want)
	}
}

// filled is a UART into which the bytes 1 to n have come.
func filled(n int) *plat.Uart {
	u := plat.NewUart()
	for i := range n {
		u.In(byte(i + 1))
	}
	return u
}

// notHarts are numbers of no hart, where there are so many.
func notHarts(harts int) []int {
	return []int{-1, -2, -harts, -64, math.MinInt, math.MinInt + 1, -1 << 32, harts, harts + 1, api.MaxVcpus, api.MaxVcpus + 1, 0x1000, 1 << 30, 1 << 32, 1<<32 + 1, math.MaxInt}
}

// notSources are numbers of no source.
var notSources = []int{0, -1, -2, -31, -32, -33, -64, 32, 33, 63, 64, 65, 96, 128, 255, 256, 257, 1 << 31, 1 << 32, 1<<32 + 1, 1<<32 + 5, -1 << 32, math.MaxInt, math.MinInt, math.MinInt + 1}

// notSizes are sizes of no register of the clock and of the controller.
var notSizes = []int{0, 1, 2, 3, 5, 6, 7, 8, 12, 16, 32, 64, 4096, -1, -2, -4, -8, 1<<32 + 4, math.MaxInt, math.MinInt, math.MinInt + 4}

// both is a controller under test and the chapter's, of which the same is asked.
type both struct {
	t *testing.T
	x *plat.Intc
	c *intc
}

// newBoth is one for so many harts.
func newBoth(t *testing.T, harts int) *both {
	t.Helper()
	x, e := plat.NewIntc(harts)
	if x == nil || e != api.OK {
		t.Fatalf("P11.3: NewIntc(%d) = %v, %d", harts, x, e)
	}
	return &both{t: t, x: x, c: newIntc(harts)}
}

// level tells both a level.
func (b *both) level(src int, up bool) {
	b.t.Helper()
	b.x.Level(src, up)
	b.c.level(src, up)
	b.same()
}

// pulse pulses both.
func (b *both) pulse(src int) {
	b.t.Helper()
	b.x.Pulse(src)
	b.c.pulse(src)
	b.same()
}

// read reads a register of both.
func (b *both) read(off uint64, size int) uint64 {
	b.t.Helper()
	got, ok := b.x.Read(off, size)
	want, is := b.c.read(off, size)
	if got != want || ok != is {
		b.t.Fatalf("P11.4: Read(%#x, %d) = %#x, %v, not %#x, %v", off, size, got, ok, want, is)
	}
	b.same()
	return got
}

// write writes a register of both.
func (b *both) write(off uint64, size int, v uint64) {
	b.t.Helper()
	if got, want := b.x.Write(off, size, v), b.c.write(off, size, v); got != want {
		b.t.Fatalf("P11.4: Write(%#x, %d, %#x) = %v", off, size, v, got)
	}
	b.same()
}

// lets has a hart let these sources alone.
func (b *both) lets(hart int, list ...int) {
	b.t.Helper()
	var bits uint64
	for _, src := range list {
		bits |= 1 << src
	}
	b.write(0x1000+4*uint64(hart), 4, bits)
}

// claims fails if a hart's claim does not tell that source.
func (b *both) claims(promise string, hart, want int) {
	b.t.Helper()
	if got := b.read(0x2000+4*uint64(hart), 4); got != uint64(want) {
		b.t.Fatalf("%s: hart %d claims %d, not %d", promise, hart, got, want)
	}
}

// completes has a hart complete a source.
func (b *both) completes(hart int, v uint64) {
	b.t.Helper()
	b.write(0x2000+4*uint64(hart), 4, v)
}

// pending fails if just these harts are not to be interrupted.
func (b *both) pending(promise string, harts ...int) {
	b.t.Helper()
	is := map[int]bool{}
	for _, h := range harts {
		is[h] = true
	}
	for h := range b.c.harts {
		if b.x.Pending(h) != is[h] {
			b.t.Fatalf("%s: Pending(%d) = %v", promise, h, !is[h])
		}
	}
}

// same fails if what is told without turning anything is not the same.
func (b *both) same() {
	b.t.Helper()
	for h := range b.c.harts {
		if got := b.x.Pending(h); got != b.c.pending(h) {
			b.t.Fatalf("P11.3: Pending(%d) = %v", h, got)
		}
		off := 0x1000 + 4*uint64(h)
		got, ok := b.x.Read(off, 4)
		if want, _ := b.c.read(off, 4); !ok || got != want {
			b.t.Fatalf("P11.4: Read(%#x, 4) = %#x, %v, not %#x", off, got, ok, want)
		}
	}
	if b.x.Pending(-1) || b.x.Pending(b.c.harts) {
		b.t.Fatal("P11.3: no hart is pending")
	}
	got, ok := b.x.Read(0, 4)
	if want, _ := b.c.read(0, 4); !ok || got != want {
		b.t.Fatalf("P11.4: Read(0, 4) = %#x, %v, not %#x", got, ok, want)
	}
}

// reveal brings out who has claimed what, and fails if it is not the same. What is revealed is turned on the way.
func (b *both) reveal() {
	b.t.Helper()
	for h := range b.c.harts {
		b.write(0x1000+4*uint64(h), 4, ones)
		for src := range uint64(32) {
			b.completes(h, src)
		}
	}
	for range 32 {
		b.read(0x2000, 4)
	}
}
