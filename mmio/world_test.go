package mmio_test

import (
	"bytes"
	"fmt"
	"math"
	"reflect"
	"strings"
	"testing"

	"citadel/api"
	"citadel/mmio"
	"citadel/ram"
)

const (
	size = api.PageSize
	base = api.RamBase
	ones = math.MaxUint64
	full = api.PteV | api.PteR | api.PteW | api.PteX | api.PteU | api.PteA | api.PteD
	// own is what a leaf of the first stage has for a supervisor.
	own = full &^ api.PteU
	// frames is how many a scene's memory has.
	frames = 32
	// nop stands where PA 0 would lead, were a fault not looked at.
	nop = 0x00000013
)

// Pages of a scene, by their places among those that its hart has.
const (
	upper  = 0 // the guest's own tables, of the levels 2, 1 and 0
	middle = 1
	lower  = 2
	code   = 3
	after  = 4 // behind code, for the hart; elsewhere, in the memory, where there are tables
	data   = 5
	gone   = 6 // where nothing is told to stand
	spare  = 7
	pages  = 16
)

// firstVirtual is where the guest's own tables have the page at place 0.
const firstVirtual = 3<<30 | 2<<21 | 1<<16

// bases are where a memory may begin.
var bases = []uint64{0, size, base, 1 << 52}

// others are numbers that are mostly no access, no kind, no size and no register.
var others = []int{0, 4, 5, 6, 7, 9, 16, 32, 33, 64, 255, -1, -2, -32, 1 << 31, 1 << 32, 1<<32 + 2, math.MinInt, math.MaxInt}

// scene is a memory, and how a hart comes to it: by which stages, and as whom.
type scene struct {
	t                   *testing.T
	m                   *ram.RAM
	first, second, user bool
}

// newScene is one whose pages all allow everything to its hart.
func newScene(t *testing.T, base uint64, first, second, user bool) scene {
	t.Helper()
	m, e := ram.New(base, frames)
	if e != api.OK {
		t.Fatalf("no memory at %#x: %d", base, e)
	}
	s := scene{t, m, first, second, user}
	s.set(base, 4, nop)
	s.tables()
	return s
}

// scenes are one of each, over memories at each base.
func scenes(t *testing.T) []scene {
	t.Helper()
	var list []scene
	for _, base := range bases {
		for i := range 8 {
			list = append(list, newScene(t, base, i&1 != 0, i&2 != 0, i&4 != 0))
		}
	}
	return list
}

// name tells a scene in a test's words.
func (s scene) name() string {
	return fmt.Sprintf("base %#x, first stage %v, second %v, user %v", s.m.Base(), s.first, s.second, s.user)
}

// tables lays those of both stages that the scene has.
func (s scene) tables() {
	s.t.Helper()
	if s.second {
		s.set(s.root()*size+8*index(s.gpa(0), 2), 8, pte(s.root()+1, api.PteV))
		s.set((s.root()+1)*size+8*index(s.gpa(0), 1), 8, pte(s.root()+2, api.PteV))
	}
	if s.first {
		s.own(upper, index(firstVirtual, 2), pte(s.gpa(middle)/size, api.PteV))
		s.own(middle, index(firstVirtual, 1), pte(s.gpa(lower)/size, api.PteV))
	}
	for i := range uint64(pages) {
		s.allowFirst(i, s.rights())
		s.allowSecond(i, full)
	}
}

// rights are those that its hart needs of the first stage.
func (s scene) rights() uint64 {
	if s.user {
		return full
	}
	return own
}

// root is the page of the second stage's table, or 0.
func (s scene) root() uint64 {
	if !s.second {
		return 0
	}
	return s.m.Base()/size + 1
}

// end is the address behind the memory.
func (s scene) end() uint64 { return s.m.Base() + frames*size }

// pa is the physical address of a page: with tables, what are neighbours for the hart lie the other way round.
func (s scene) pa(i uint64) uint64 {
	if s.first || s.second {
		return s.m.Base() + (frames-1-i)*size
	}
	return s.m.Base() + (8+i)*size
}

// gpa is the guest-physical address of a page: with both stages, these are not in the hart's order either.
func (s scene) gpa(i uint64) uint64 {
	switch {
	case s.first && s.second:
		return (0x300 + i*5%pages) * size
	case s.second:
		return (0x300 + i) * size
	}
	return s.pa(i)
}

// va is the address by which the hart has a page.
func (s scene) va(i uint64) uint64 {
	if s.first {
		return firstVirtual + i*size
	}
	return s.gpa(i)
}

// satp is that of the hart.
func (s scene) satp() uint64 {
	if s.first {
		return 8<<60 | s.gpa(upper)/size
	}
	return 0
}

// allowFirst says what the first stage allows of a page.
func (s scene) allowFirst(i, bits uint64) {
	s.t.Helper()
	if s.first {
		s.own(lower, index(s.va(i), 0), pte(s.gpa(i)/size, bits))
	}
}

// allowSecond says what the second stage allows of a page.
func (s scene) allowSecond(i, bits uint64) {
	s.t.Helper()
	s.leadSecond(i, pte(s.pa(i)/size, bits))
}

// leadSecond says what the second stage has for a page.
func (s scene) leadSecond(i, e uint64) {
	s.t.Helper()
	if s.second {
		s.set((s.root()+2)*size+8*index(s.gpa(i), 0), 8, e)
	}
}

// own writes an entry into a table of the guest's own.
func (s scene) own(table, at, e uint64) {
	s.t.Helper()
	s.set(s.pa(table)+8*at, 8, e)
}

// set writes a number at a physical address.
func (s scene) set(at uint64, n int, v uint64) {
	s.t.Helper()
	if !s.m.Write(at, n, v) {
		s.t.Fatalf("no %d bytes at %#x", n, at)
	}
}

// all are the memory's bytes.
func (s scene) all() []byte {
	s.t.Helper()
	b, ok := s.m.Bytes(s.m.Base(), frames*size)
	if !ok {
		s.t.Fatal("no bytes")
	}
	return b
}

// hart is the scene's, at an address.
func (s scene) hart(pc uint64) api.Hart {
	h := sample()
	h.PC, h.User, h.Satp = pc, s.user, s.satp()
	return h
}

// fetches holds Fetch against what it must answer: an instruction, or, of 0 bytes, none.
func (s scene) fetches(h api.Hart, w uint32, long int) {
	s.t.Helper()
	was := s.all()
	got, n, ok := mmio.Fetch(s.m, s.root(), h)
	if got != w || n != long || ok != (long != 0) {
		s.t.Errorf("P15.1: %s: Fetch at %#x = %#x, %d, %v, not %#x, %d", s.name(), h.PC, got, n, ok, w, long)
	}
	if !bytes.Equal(s.all(), was) {
		s.t.Errorf("R3: %s: Fetch has turned the memory", s.name())
	}
}

// none holds Fetch against no instruction.
func (s scene) none(h api.Hart) {
	s.t.Helper()
	s.fetches(h, 0, 0)
}

// pte is an entry that names a page.
func pte(number, bits uint64) uint64 { return number<<10 | bits }

// index is the number of the entry that an address chooses at a level.
func index(addr uint64, level int) uint64 { return addr >> (12 + 9*level) & 511 }

// ordered is a hart brought in order, as layer 6 says it.
func ordered(h api.Hart) api.Hart {
	h.X[0] = 0
	h.PC -= h.PC % 2
	h.Sepc -= h.Sepc % 2
	h.Stvec &= ones - 2
	h.Sie &= 1<<1 + 1<<5 + 1<<9
	h.Sip &= 1<<1 + 1<<5 + 1<<9
	return h
}

// sample is a hart no two of whose fields are alike, so that what stays can be told from what goes. An interrupt waits,
// and is let: nothing of this layer takes it.
func sample() api.Hart {
	h := api.Hart{
		PC: base + 0x40, On: true, Spp: true, Sum: true, Reserved: true,
		Stvec: 0x7001, Sscratch: 0x51, Sepc: 0x52, Scause: 0x53, Stval: 0x54,
		Sie: 0x222, Sip: 0x202, Satp: 0x55, Reservation: 0x56,
	}
	for i := range h.X {
		h.X[i] = uint64(i) * 0x1122_3344_5566_7789
	}
	return h
}

// disordered is the sample with all in it that must be 0.
func disordered() api.Hart {
	h := sample()
	h.X[0] = 0xf00d_f00d_f00d_f00d
	h.PC |= 1
	h.Sepc |= 1
	h.Stvec |= 2
	h.Sie, h.Sip = ones, ones-1<<9
	return h
}

// unlike tells in which fields two harts are unlike.
func unlike(got, want api.Hart) string {
	var fields []string
	g, w := reflect.ValueOf(got), reflect.ValueOf(want)
	for i := range g.NumField() {
		if a, b := g.Field(i).Interface(), w.Field(i).Interface(); a != b {
			fields = append(fields, fmt.Sprintf("%s = %#v, not %#v", g.Type().Field(i).Name, a, b))
		}
	}
	return strings.Join(fields, "; ")
}

// same fails if a hart is not what it must be, or is not in order.
func same(t *testing.T, promise string, got, want api.Hart) {
	t.Helper()
	if got != want {
		t.Errorf("%s: the hart: %s", promise, unlike(got, want))
	}
	if got != ordered(got) {
		t.Errorf("%s: the hart is not in order: %s", promise, unlike(got, ordered(got)))
	}
}
