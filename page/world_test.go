package page_test

import (
	"bytes"
	"math"
	"testing"

	"citadel/api"
	"citadel/page"
	"citadel/ram"
)

const (
	size = api.PageSize
	ones = math.MaxUint64
	rwx  = api.PteR | api.PteW | api.PteX
	full = api.PteV | rwx | api.PteU | api.PteA | api.PteD
	// own is what a leaf of the first stage has for a supervisor.
	own = full &^ api.PteU
)

// accesses are the three, and some that are none.
var accesses = []int{api.Fetch, api.Load, api.Store, 0, 4, -1, 1 << 32, 1<<32 + api.Load, math.MinInt, math.MaxInt}

// bases are where a memory may begin.
var bases = []uint64{0, size, api.RamBase, 1 << 52}

// pte is an entry that names a page.
func pte(number, bits uint64) uint64 { return number<<10 | bits }

// index is the number of the entry that an address chooses at a level.
func index(addr uint64, level int) uint64 { return addr >> (12 + 9*level) & 511 }

// world is a memory with tables in it.
type world struct {
	t *testing.T
	m *ram.RAM
}

func newWorld(t *testing.T, base uint64, frames int) world {
	t.Helper()
	m, e := ram.New(base, frames)
	if e != api.OK {
		t.Fatalf("New(%#x, %d): %d", base, frames, e)
	}
	return world{t, m}
}

// frame is the page's number of a frame.
func (w world) frame(i uint64) uint64 { return w.m.Base()/size + i }

// put writes an entry into the table that is a page.
func (w world) put(table, at, e uint64) {
	w.t.Helper()
	if !w.m.Write(table*size+at*8, 8, e) {
		w.t.Fatalf("no table at page %#x", table)
	}
}

// lead writes what a walk of addr meets, in the tables of the levels 2, 1 and 0: e at a level, and above it what leads there.
func (w world) lead(tables [3]uint64, addr uint64, level int, e uint64) {
	w.t.Helper()
	for l := 2; l > level; l-- {
		w.put(tables[2-l], index(addr, l), pte(tables[3-l], api.PteV))
	}
	w.put(tables[2-level], index(addr, level), e)
}

// all are the memory's bytes.
func (w world) all() []byte {
	w.t.Helper()
	b, ok := w.m.Bytes(w.m.Base(), w.m.Frames()*size)
	if !ok {
		w.t.Fatal("no bytes")
	}
	return b
}

// same fails if a byte has turned.
func (w world) same(was []byte) {
	w.t.Helper()
	if !bytes.Equal(w.all(), was) {
		w.t.Error("P4.3: a translation has turned the memory")
	}
}

// guest holds Guest against what is wanted.
func (w world) guest(root, gpa uint64, access int, pa uint64, perm, fault int) {
	w.t.Helper()
	gotPA, gotPerm, gotFault := page.Guest(w.m, root, gpa, access)
	if gotPA != pa || gotPerm != perm || gotFault != fault {
		w.t.Errorf("P4.1: Guest(%#x, %#x, %d) = %#x, %d, %d, not %#x, %d, %d", root, gpa, access, gotPA, gotPerm, gotFault, pa, perm, fault)
	}
}

// faults holds Guest against a fault.
func (w world) faults(root, gpa uint64, access, fault int) {
	w.t.Helper()
	w.guest(root, gpa, access, 0, 0, fault)
}

// at holds Translate against what is wanted.
func (w world) at(e api.Env, va uint64, access int, want api.Place) {
	w.t.Helper()
	if got := page.Translate(w.m, e, va, access); got != want {
		w.t.Errorf("P4.2: Translate(%+v, %#x, %d) = %+v, not %+v", e, va, access, got, want)
	}
}

// satp has tables from a page on.
func satp(table uint64) uint64 { return 8<<60 | table }

// here is a place without a fault.
func here(pa, gpa uint64) api.Place { return api.Place{PA: pa, GPA: gpa} }

// pageFault is all that a fault of the first stage tells.
func pageFault() api.Place { return api.Place{Fault: api.FaultPage} }

// blocked is a fault of the address itself.
func blocked(gpa uint64, fault int) api.Place { return api.Place{GPA: gpa, Fault: fault} }

// walking is a fault of an entry of the first stage.
func walking(gpa uint64, fault int) api.Place { return api.Place{GPA: gpa, Fault: fault, Walk: true} }
