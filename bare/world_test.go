package bare_test

import (
	"bytes"
	"fmt"
	"math"
	"math/rand"
	"reflect"
	"slices"
	"strings"
	"testing"

	"citadel/api"
	"citadel/bare"
	"citadel/inst"
)

const (
	base     = api.RamBase
	pageSize = api.PageSize
	sector   = 512
	ones     = math.MaxUint64
)

// Calls of a supervisor: their kinds.
const (
	asks   = 0x10
	puts   = 1
	timer  = 0x54494d45
	wakes  = 0x735049
	harts  = 0x48534d
	resets = 0x53525354
)

// Registers of devices.
const (
	uartIER  = api.UartBase + 1
	uartLCR  = api.UartBase + 3
	uartSCR  = api.UartBase + 7
	intcLets = api.IntcBase + 0x1000
	intcAt   = api.IntcBase + 0x2000

	selReg    = 0x30
	sizeReg   = 0x38
	readyReg  = 0x44
	noticeReg = 0x50
	statusReg = 0x70
	descReg   = 0x80
	availReg  = 0x90
	usedReg   = 0xa0

	srcReg     = 0x00
	dstReg     = 0x08
	lenReg     = 0x10
	controlReg = 0x18
	msiReg     = 0x28
	dataReg    = 0x30
)

// CSRs.
const (
	sstatus = 0x100
	sie     = 0x104
	stvec   = 0x105
	sepc    = 0x141
	scause  = 0x142
	sip     = 0x144
	satp    = 0x180
	timeCSR = 0xc01
)

// none are numbers of no virtual hart, no page and no port, however many there are.
var none = []int{-1, -2, -64, 65, 1 << 20, 1 << 32, 1<<32 + 1, -1 << 32, 1 << 51, 1<<52 + 1, math.MinInt, math.MinInt + 1, math.MaxInt}

// noKinds are kinds of no label.
var noKinds = []int{0, -1, 6, 7, 9, 255, 256, 257, 1 << 32, 1<<32 + 1, math.MinInt, math.MinInt + 1, math.MaxInt}

// li are instructions that put a number into a register, eleven bits at a time.
func li(reg int, v uint64) []api.Inst {
	var list []api.Inst
	for shift := 55; shift >= 0; shift -= 11 {
		part := int(v >> shift & 0x7ff)
		if len(list) == 0 {
			if part != 0 || shift == 0 {
				list = append(list, api.Inst{Kind: api.KindAluImm, Fn: api.Add, Rd: reg, Imm: part})
			}
			continue
		}
		list = append(list, api.Inst{Kind: api.KindAluImm, Fn: api.Sll, Rd: reg, Rs1: reg, Imm: 11}, api.Inst{Kind: api.KindAluImm, Fn: api.Add, Rd: reg, Rs1: reg, Imm: part})
	}
	return list
}

// ecall are instructions that make a call.
func ecall(kind, fn, a, b, c uint64) []api.Inst {
	return join(li(17, kind), li(16, fn), li(10, a), li(11, b), li(12, c), one(api.Inst{Kind: api.KindEcall}))
}

// poke are instructions that store a number at an address, by registers 5 and 6.
func poke(at uint64, size int, v uint64) []api.Inst {
	return join(li(5, at), li(6, v), one(api.Inst{Kind: api.KindStore, Size: size, Rs1: 5, Rs2: 6}))
}

// peek are instructions that load from an address, by register 5, into another one.
func peek(reg int, at uint64, size int, signed bool) []api.Inst {
	return join(li(5, at), one(api.Inst{Kind: api.KindLoad, Size: size, Signed: signed, Rd: reg, Rs1: 5}))
}

// csrw are instructions that write a CSR, by register 5.
func csrw(csr int, v uint64) []api.Inst {
	return join(li(5, v), one(api.Inst{Kind: api.KindCsr, Fn: 1, Rs1: 5, Imm: csr}))
}

// one is a list of one instruction.
func one(i api.Inst) []api.Inst { return []api.Inst{i} }

var (
	wfi  = api.Inst{Kind: api.KindWfi}
	stay = api.Inst{Kind: api.KindJal} // it jumps to itself
	nop  = api.Inst{Kind: api.KindAluImm, Fn: api.Add}
)

// join are lists one behind the other.
func join[T any](lists ...[]T) []T { return slices.Concat(lists...) }

// image are instructions' bytes.
func image(parts ...[]api.Inst) []byte {
	var b []byte
	for _, i := range join(parts...) {
		w, ok := inst.Encode(i)
		if !ok {
			panic(fmt.Sprintf("no instruction: %+v", i))
		}
		b = append(b, byte(w), byte(w>>8), byte(w>>16), byte(w>>24))
	}
	return b
}

// lay lays a number down at a place of an image, which grows as it must.
func lay(b []byte, at, size int, v uint64) []byte {
	for len(b) < at+size {
		b = append(b, 0)
	}
	for i := range size {
		b[at+i] = byte(v >> (8 * i))
	}
	return b
}

// place lays bytes down at a place of an image.
func place(b []byte, at int, more []byte) []byte {
	for i, v := range more {
		b = lay(b, at+i, 1, uint64(v))
	}
	return b
}

// bar is where slot i's registers are laid.
func bar(i int) uint64 { return 0x40000000 + uint64(i)*pageSize }

// finds are instructions that have slots' registers be found, slot i's at bar(i).
func finds(slots int) []api.Inst {
	var list []api.Inst
	for i := range slots {
		space := api.PciBase + uint64(i)*pageSize
		list = join(list, poke(space+0x10, 4, bar(i)), poke(space+4, 2, 2))
	}
	return list
}

// begins are instructions that make a queue of a slot's device ready, whose descriptors, available and used ring lie at
// a place of memory, 256 bytes each.
func begins(slot, q int, at uint64) []api.Inst {
	r := bar(slot)
	return join(
		poke(r+selReg, 4, uint64(q)), poke(r+sizeReg, 4, 4), poke(r+descReg, 4, at), poke(r+availReg, 4, at+256), poke(r+usedReg, 4, at+512),
		poke(r+readyReg, 4, 1), poke(r+statusReg, 4, 4),
	)
}

// copies are instructions by which an engine in a slot begins to copy, and to send a message then.
func copies(slot int, src, dst, n, index uint64) []api.Inst {
	r := bar(slot)
	return join(poke(r+srcReg, 8, src), poke(r+dstReg, 8, dst), poke(r+lenReg, 8, n), poke(r+msiReg, 8, api.MsiBase), poke(r+dataReg, 8, index), poke(r+controlReg, 4, 1))
}

// pattern are n bytes, none of which is 0.
func pattern(n, seed int) []byte {
	b := make([]byte, n)
	for i := range b {
		b[i] = byte(1 + (i*7+i/251+seed*31)%255)
	}
	return b
}

// lent is a list of bytes with spare room in which something stands, too.
func lent(b []byte) (list, all []byte) {
	all = append(slices.Clone(b), 0xaa, 0x55, 0xaa)
	return all[:len(b)], all
}

// pair is a machine under test and the chapter's, to which the same happens.
type pair struct {
	t     *testing.T
	m     *bare.Machine
	c     *chapter
	pages int
}

// newPair is one that is new. What it was made of is lent, and spoilt behind it.
func newPair(t *testing.T, c api.GuestConf) *pair {
	t.Helper()
	p := &pair{t: t, c: newChapter(c), pages: c.Pages}
	image, allImage := lent(c.Image)
	disk, allDisk := lent(c.Disk)
	devs := append(slices.Clone(c.Devs), 77, 78)
	wasImage, wasDisk, wasDevs := slices.Clone(allImage), slices.Clone(allDisk), slices.Clone(devs)
	c.Image, c.Disk, c.Devs = image, disk, devs[:len(c.Devs)]
	m, e := bare.New(c)
	if m == nil || e != api.OK || !bare.Right(c) {
		t.Fatalf("P19.1: New = %v, %d", m, e)
	}
	if !bytes.Equal(allImage, wasImage) || !bytes.Equal(allDisk, wasDisk) || !slices.Equal(devs, wasDevs) {
		t.Fatal("R3: New turned what was handed in")
	}
	p.m = m
	spoil(allImage)
	spoil(allDisk)
	clear(devs)
	p.same()
	return p
}

// spoil turns all bytes of a list.
func spoil(b []byte) {
	for i := range b {
		b[i] ^= 0xff
	}
}

// do does a label to both, and holds them against each other.
func (p *pair) do(l api.Label) {
	p.t.Helper()
	p.c.do(l)
	list, all := lent(l.Bytes)
	was := slices.Clone(all)
	l.Bytes = list
	p.m.Do(l)
	if !bytes.Equal(was, all) {
		p.t.Fatalf("R3: Do(%d, %d) turned what was handed in", l.Kind, l.N)
	}
	spoil(all)
	p.same()
}

// steps are so many LabelSteps of a virtual hart.
func (p *pair) steps(v, n int) {
	p.t.Helper()
	for range n {
		p.do(api.Label{Kind: api.LabelStep, N: v})
	}
}

// ticks are so many LabelTicks.
func (p *pair) ticks(n int) {
	p.t.Helper()
	for range n {
		p.do(api.Label{Kind: api.LabelTick})
	}
}

// in is a LabelInput.
func (p *pair) in(port int, b []byte) {
	p.t.Helper()
	p.do(api.Label{Kind: api.LabelInput, N: port, Bytes: b})
}

// until steps a virtual hart till it stands somewhere.
func (p *pair) until(v int, pc uint64) {
	p.t.Helper()
	for range 5000 {
		if p.hart(v).PC == pc {
			return
		}
		p.steps(v, 1)
	}
	p.t.Fatalf("number %d does not come to %#x, but to %#x", v, pc, p.hart(v).PC)
}

// runs steps virtual hart 0 behind these instructions, which stand where it does.
func (p *pair) runs(list []api.Inst) {
	p.t.Helper()
	p.until(0, p.hart(0).PC+4*uint64(len(list)))
}

// vcpu and hart are a virtual hart, and its hart.
func (p *pair) vcpu(v int) api.Vcpu { return p.m.See().Vcpus[v] }

func (p *pair) hart(v int) api.Hart { return p.vcpu(v).Hart }

// take takes the frames that both cards have sent.
func (p *pair) take() [][]byte {
	p.t.Helper()
	got, want := p.m.Take(), p.c.b.Take()
	if len(got)+len(want) > 0 && !reflect.DeepEqual(got, want) {
		p.t.Fatalf("P19.3: Take = %v, not %v", got, want)
	}
	return got
}

// same fails if the two do not tell the same, or the next steps would not come to the same.
func (p *pair) same() {
	p.t.Helper()
	sameSight(p.t, "P19.3", p.m.See(), api.Sight{Vcpus: p.c.vs, Now: p.c.now, Uart: p.c.b.Uart(), Console: p.c.b.Console(), Disk: p.c.b.Disk(), Down: p.c.down})
	for i := range p.pages {
		want, _ := p.c.mem.Bytes(base+uint64(i)*pageSize, pageSize)
		if !bytes.Equal(p.m.Memory(i), want) {
			p.t.Fatalf("P19.3: page %d is not as it must be", i)
		}
	}
	for v := -1; v <= len(p.c.vs); v++ {
		if got, want := p.m.Peek(v), p.c.peek(v); got != want {
			p.t.Fatalf("P19.2: Peek(%d) = %+v, not %+v", v, got, want)
		}
	}
}

// sameSight fails if what is seen is not what must be.
func sameSight(t *testing.T, promise string, got, want api.Sight) {
	t.Helper()
	if len(got.Vcpus) != len(want.Vcpus) {
		t.Fatalf("%s: %d virtual harts, not %d", promise, len(got.Vcpus), len(want.Vcpus))
	}
	for i := range got.Vcpus {
		if got.Vcpus[i] != want.Vcpus[i] {
			t.Fatalf("%s: number %d: %s", promise, i, unlike(got.Vcpus[i], want.Vcpus[i]))
		}
	}
	if got.Now != want.Now || got.Down != want.Down {
		t.Fatalf("%s: the time %d, down %v, not %d, %v", promise, got.Now, got.Down, want.Now, want.Down)
	}
	for _, x := range []struct {
		name      string
		got, want []byte
	}{{"Uart", got.Uart, want.Uart}, {"Console", got.Console, want.Console}, {"Disk", got.Disk, want.Disk}} {
		if !bytes.Equal(x.got, x.want) {
			t.Fatalf("%s: %s is %q, not %q", promise, x.name, x.got, x.want)
		}
	}
}

// unlike tells in which fields two virtual harts are unlike.
func unlike(got, want api.Vcpu) string {
	fields := differ(reflect.ValueOf(got), reflect.ValueOf(want))
	return strings.Join(append(fields, differ(reflect.ValueOf(got.Hart), reflect.ValueOf(want.Hart))...), "; ")
}

// differ are the fields, other than the hart, by which two structs differ.
func differ(g, w reflect.Value) []string {
	var fields []string
	for i := range g.NumField() {
		name := g.Type().Field(i).Name
		if a, b := g.Field(i).Interface(), w.Field(i).Interface(); a != b && name != "Hart" {
			fields = append(fields, fmt.Sprintf("%s = %#v, not %#v", name, a, b))
		}
	}
	return fields
}

// some is one of a list, by chance.
func some[T any](r *rand.Rand, list ...T) T { return list[r.Intn(len(list))] }
