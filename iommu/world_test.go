package iommu_test

import (
	"bytes"
	"encoding/binary"
	"math"
	"slices"
	"testing"

	"citadel/api"
	"citadel/iommu"
	"citadel/ram"
)

const (
	size = api.PageSize
	ones = math.MaxUint64
	rwx  = api.PteR | api.PteW | api.PteX
	full = api.PteV | rwx | api.PteU | api.PteA | api.PteD
)

// The face that the chapter lists: with its TLB's methods promoted an IOMMU has it all.
var _ interface {
	Ring(addr uint64) api.Errno
	Set(dev int, root uint64) api.Errno
	Drop(dev int) api.Errno
	Root(dev int) uint64
	Remap(dev int, index uint64, to api.Msi) api.Errno
	Access(dev int, addr uint64, size int, write bool) (uint64, bool)
	Message(dev int, addr, data uint64) (api.Msi, bool)
	Next() (api.Record, bool)
	Overflow() bool
	Clear()
	Invalidate(dev int)
	InvalidatePage(dev int, page uint64)
	Evict(i int) bool
	Entries() []api.Trans
} = (*iommu.IOMMU)(nil)

// noDevs are numbers of no device.
var noDevs = []int{-1, -2, -api.MaxDevs, api.MaxDevs, api.MaxDevs + 1, 255, 256, 1 << 32, 1<<32 + 1, math.MinInt, math.MinInt + 1, math.MaxInt}

// noSizes are sizes of no access.
var noSizes = []int{0, 3, 5, 6, 7, 9, 10, 12, 16, 32, 64, size, 1 << 31, 1 << 32, 1<<32 + 8, 1 << 62, -1, -2, -4, -8, math.MinInt, math.MinInt + 8, math.MaxInt}

// bases are where a memory may begin.
var bases = []uint64{0, size, api.RamBase, 1 << 52}

// pte is an entry that names a page.
func pte(number, bits uint64) uint64 { return number<<10 | bits }

// index is the number of the entry that an address chooses at a level.
func index(addr uint64, level int) uint64 { return addr >> (12 + 9*level) & 511 }

// world is an IOMMU under test, with its memory.
type world struct {
	t *testing.T
	m *ram.RAM
	*iommu.IOMMU
}

func newWorld(t *testing.T, base uint64, frames, room int) world {
	t.Helper()
	m, e := ram.New(base, frames)
	if e != api.OK {
		t.Fatalf("no memory: %d", e)
	}
	u, e := iommu.New(m, room)
	if u == nil || e != api.OK {
		t.Fatalf("P7.1: New(%d): %v, %d", room, u, e)
	}
	return world{t, m, u}
}

// frame is the page's number of a frame.
func (w world) frame(i int) uint64 { return w.m.Base()/size + uint64(i) }

// at is the physical address of a frame.
func (w world) at(i int) uint64 { return w.frame(i) * size }

// lead writes what a walk of addr meets, in tables of the levels 2, 1 and 0 in the frames from first on: e at a level,
// and above it what leads there.
func (w world) lead(first int, addr uint64, level int, e uint64) {
	w.t.Helper()
	for l := 2; l > level; l-- {
		w.set(w.at(first+2-l)+8*index(addr, l), pte(w.frame(first+3-l), api.PteV))
	}
	w.set(w.at(first+2-level)+8*index(addr, level), e)
}

// set writes 8 bytes at a physical address.
func (w world) set(at, v uint64) {
	w.t.Helper()
	if !w.m.Write(at, 8, v) {
		w.t.Fatalf("no place at %#x", at)
	}
}

// ok fails if a call was refused.
func (w world) ok(e api.Errno) {
	w.t.Helper()
	if e != api.OK {
		w.t.Fatalf("P7.1: refused: %d", e)
	}
}

// refused fails if a call was not refused.
func (w world) refused(promise string, e api.Errno) {
	w.t.Helper()
	if e != api.ErrArg {
		w.t.Errorf("%s: %d, not ErrArg", promise, e)
	}
}

// all are the memory's bytes.
func (w world) all() []byte {
	w.t.Helper()
	b, ok := w.m.Bytes(w.m.Base(), w.m.Frames()*size)
	if !ok {
		w.t.Fatal("no bytes")
	}
	return b
}

// same fails if the memory is not as it was, but for these bytes at a physical address.
func (w world) same(promise string, was []byte, at uint64, b []byte) {
	w.t.Helper()
	copy(was[at-w.m.Base():], b)
	now := w.all()
	for i := range now {
		if now[i] != was[i] {
			w.t.Fatalf("%s: the byte at %#x is %#x, not %#x", promise, w.m.Base()+uint64(i), now[i], was[i])
		}
	}
}

// wire are a record's bytes.
func wire(r api.Record) []byte {
	b := binary.LittleEndian.AppendUint32(nil, uint32(r.Dev))
	b = binary.LittleEndian.AppendUint32(b, uint32(r.Kind))
	return binary.LittleEndian.AppendUint64(b, r.Addr)
}

// tells fails if Next does not tell that record.
func (w world) tells(promise string, want api.Record) {
	w.t.Helper()
	if got, ok := w.Next(); !ok || got != want {
		w.t.Fatalf("%s: Next = %+v, %v, not %+v", promise, got, ok, want)
	}
}

// silent fails if Next tells anything, or if the flag is not as it should be.
func (w world) silent(promise string, lost bool) {
	w.t.Helper()
	if got, ok := w.Next(); ok || got != (api.Record{}) {
		w.t.Errorf("%s: Next = %+v, %v", promise, got, ok)
	}
	w.flag(promise, lost)
}

// flag fails if the flag is not as it should be.
func (w world) flag(promise string, lost bool) {
	w.t.Helper()
	if w.Overflow() != lost {
		w.t.Errorf("%s: Overflow is %v", promise, !lost)
	}
}

// comes fails if an access does not come to a place, or leaves anything behind in the memory.
func (w world) comes(promise string, dev int, addr uint64, n int, write bool, want uint64) {
	w.t.Helper()
	was, lost := w.all(), w.Overflow()
	if pa, ok := w.Access(dev, addr, n, write); !ok || pa != want {
		w.t.Errorf("%s: Access(%d, %#x, %d, %v) = %#x, %v, not %#x", promise, dev, addr, n, write, pa, ok, want)
	}
	w.flag(promise, lost)
	w.same(promise, was, w.m.Base(), nil)
}

// stops fails if an access was let through; what was blocked answers 0.
func (w world) stops(promise string, dev int, addr uint64, n int, write bool) {
	w.t.Helper()
	if pa, ok := w.Access(dev, addr, n, write); ok || pa != 0 {
		w.t.Errorf("%s: Access(%d, %#x, %d, %v) = %#x, %v", promise, dev, addr, n, write, pa, ok)
	}
}

// blocks fails if an access is not blocked with a kind. The ring is empty, and its next place is that address; what is
// written there, and nowhere else, is the record.
func (w world) blocks(promise string, place uint64, dev int, addr uint64, n int, write bool, kind int) {
	w.t.Helper()
	was, lost := w.all(), w.Overflow()
	w.stops(promise, dev, addr, n, write)
	w.recorded(promise, was, place, api.Record{Dev: dev, Kind: kind, Addr: addr})
	w.silent(promise, lost)
}

// recorded fails if a record is not all that was written, or is not told.
func (w world) recorded(promise string, was []byte, place uint64, r api.Record) {
	w.t.Helper()
	w.same(promise, was, place, wire(r))
	w.tells(promise, r)
}

// has fails if the TLB's entries are not those, in that order.
func (w world) has(promise string, want ...api.Trans) {
	w.t.Helper()
	if got := w.Entries(); !slices.Equal(got, want) {
		w.t.Errorf("%s: Entries = %v, not %v", promise, got, want)
	}
}

// plain is a world of 16 frames from base on, with a ring in frame 15 and a table of device 1 from frame 1 on: page 5
// is frame 9, page 6 frame 10 without PteW, page 7 lies behind the memory, page 8 is frame 12 without PteD.
func plain(t *testing.T, base uint64, room int) world {
	t.Helper()
	w := newWorld(t, base, 16, room)
	w.lead(1, 5*size, 0, pte(w.frame(9), full))
	w.lead(1, 6*size, 0, pte(w.frame(10), full&^api.PteW))
	w.lead(1, 7*size, 0, pte(w.frame(16), full))
	w.lead(1, 8*size, 0, pte(w.frame(12), full&^api.PteD))
	w.ok(w.Set(1, w.frame(1)))
	w.ok(w.Ring(w.at(15)))
	return w
}

// place is the place of a record in plain's ring.
func (w world) place(i int) uint64 { return w.at(15) + uint64(i%api.RingSize)*16 }

// untouched fails if the memory's bytes are not those.
func (w world) untouched(promise string, was []byte) {
	w.t.Helper()
	if !bytes.Equal(w.all(), was) {
		w.t.Errorf("%s: the memory has turned", promise)
	}
}
