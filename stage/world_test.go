package stage_test

import (
	"bytes"
	"math"
	"slices"
	"testing"

	"citadel/api"
	"citadel/frame"
	"citadel/page"
	"citadel/ram"
	"citadel/stage"
)

const (
	size = api.PageSize
	ones = math.MaxUint64
	rw   = api.PteR | api.PteW
	rx   = api.PteR | api.PteX
	rwx  = rw | api.PteX
	// highest is the last page that a guest may have.
	highest = 1<<27 - 1
)

// perms are all rights that a page may have.
var perms = []int{api.PteR, rw, api.PteX, rx, rwx}

// accesses are the three.
var accesses = []int{api.Fetch, api.Load, api.Store}

// bases are where a memory may begin.
var bases = []uint64{0, size, api.RamBase, 1 << 52}

// notPages are numbers of no page; cut to 27 bits some of them are 0, 5 or the highest.
var notPages = []uint64{1 << 27, 1<<27 + 1, 1<<27 + 5, 1<<28 - 1, 1 << 28, 1<<32 + 5, 1 << 36, 1<<52 - 1, 1<<52 + 5, 1 << 63, ones - 1, ones}

// notVmids are numbers of no VMID.
var notVmids = []int{0, -1, -2, -api.MaxVmid, api.MaxVmid + 1, api.MaxVmid + 2, 31, 32, 33, 63, 64, 65, 1 << 32, 1<<32 + 1, -1 << 32, math.MinInt, math.MinInt + 1, math.MaxInt}

// notPerms are rights that no page may have: all other numbers of eleven bits, and some that have one of perms as their low bits.
func notPerms() []int {
	var list []int
	for perm := range 1 << 11 {
		if !slices.Contains(perms, perm) {
			list = append(list, perm)
		}
	}
	for _, perm := range perms {
		list = append(list, -perm, perm|1<<31, perm|1<<32, perm|1<<62, perm|math.MinInt)
	}
	return append(list, -1, math.MinInt, math.MaxInt)
}

// notFrames are numbers of no frame, where there are so many.
func notFrames(frames int) []int {
	return []int{-1, -2, -frames, -frames - 1, frames, frames + 1, 2 * frames, api.MaxFrames, api.MaxFrames + 1, 1 << 32, 1<<32 + 1, -1 << 32, 1 << 52, math.MinInt, math.MaxInt}
}

// world is a memory and its pool, of which spaces are made.
type world struct {
	t *testing.T
	m *ram.RAM
	p *frame.Pool
}

func newWorld(t *testing.T, base uint64, frames, reserved int) *world {
	t.Helper()
	m, e := ram.New(base, frames)
	if e != api.OK {
		t.Fatalf("no memory from %#x on: %d", base, e)
	}
	p, e := frame.New(m, reserved, 2)
	if e != api.OK {
		t.Fatalf("no pool: %d", e)
	}
	return &world{t, m, p}
}

// space is a space that must come to be.
func (w *world) space(vmid int) *stage.Space {
	w.t.Helper()
	s, e := stage.New(w.m, w.p, vmid)
	if s == nil || e != api.OK {
		w.t.Fatalf("P10.2: New(%d) = %v, %d", vmid, s, e)
	}
	return s
}

// maps maps pages of a space, which must be done.
func (w *world) maps(s *stage.Space, list ...api.Page) {
	w.t.Helper()
	for _, x := range list {
		if e := s.Map(x.Page, x.Frame, x.Perm); e != api.OK {
			w.t.Fatalf("P10.3: Map(%#x, %d, %#x) = %d", x.Page, x.Frame, x.Perm, e)
		}
	}
}

// leaves takes frames for a guest, till only so many are free.
func (w *world) leaves(free int) {
	w.t.Helper()
	for w.p.Count(api.Free) > free {
		w.p.Take(api.MaxGuests)
	}
	if w.p.Count(api.Free) != free {
		w.t.Fatalf("%d frames are free, not %d", w.p.Count(api.Free), free)
	}
}

// free are the free frames, rising.
func (w *world) free() []int {
	var list []int
	for f := range w.m.Frames() {
		if w.p.Owner(f) == api.Free {
			list = append(list, f)
		}
	}
	return list
}

// soil writes all bytes of all frames, each another than 0.
func (w *world) soil() {
	w.t.Helper()
	b := make([]byte, w.m.Frames()*size)
	for i := range b {
		b[i] = byte(i%251 + 1)
	}
	if !w.m.Fill(w.m.Base(), b) {
		w.t.Fatal("the memory has not all its bytes")
	}
}

// all are the memory's bytes.
func (w *world) all() []byte {
	w.t.Helper()
	b, ok := w.m.Bytes(w.m.Base(), w.m.Frames()*size)
	if !ok {
		w.t.Fatal("the memory has lost bytes")
	}
	return b
}

// number is the page's number of a frame.
func (w *world) number(f int) uint64 { return (w.m.Base() + uint64(f)*size) / size }

// at is the physical address of a frame.
func (w *world) at(f int) uint64 { return w.m.Base() + uint64(f)*size }

// entry is an entry of the table in a frame.
func (w *world) entry(f int, i uint64) uint64 {
	w.t.Helper()
	e, ok := w.m.Read(w.at(f)+8*i, 8)
	if !ok {
		w.t.Fatalf("no frame %d", f)
	}
	return e
}

// shot is all that can be told of a world and its spaces.
type shot struct {
	bytes  []byte
	owners []int
	waits  []uint64
	pages  [][]api.Page
	tables [][]int
}

func (w *world) shot(spaces ...*stage.Space) shot {
	w.t.Helper()
	x := shot{bytes: w.all()}
	for f := range w.m.Frames() {
		x.owners = append(x.owners, w.p.Owner(f))
		x.waits = append(x.waits, w.p.Waits(f))
	}
	for _, s := range spaces {
		x.pages = append(x.pages, s.Pages())
		x.tables = append(x.tables, s.Tables())
	}
	return x
}

// still fails if anything has changed.
func (w *world) still(promise string, was shot, spaces ...*stage.Space) {
	w.t.Helper()
	now := w.shot(spaces...)
	if !bytes.Equal(now.bytes, was.bytes) {
		w.t.Fatalf("%s: bytes have changed", promise)
	}
	if !slices.Equal(now.owners, was.owners) || !slices.Equal(now.waits, was.waits) {
		w.t.Fatalf("%s: owners are %v, not %v, and what is waited for %x, not %x", promise, now.owners, was.owners, now.waits, was.waits)
	}
	for i := range spaces {
		if !slices.Equal(now.pages[i], was.pages[i]) || !slices.Equal(now.tables[i], was.tables[i]) {
			w.t.Fatalf("%s: pages are %v, not %v, tables %v, not %v", promise, now.pages[i], was.pages[i], now.tables[i], was.tables[i])
		}
	}
}

// guest fails if page.Guest, by the space's root, does not come to what is said of a page: at its first byte and its last, for each access.
func (w *world) guest(s *stage.Space, number uint64, x api.Page, mapped bool) {
	w.t.Helper()
	for _, off := range []uint64{0, size - 1} {
		for _, access := range accesses {
			right := map[int]int{api.Fetch: api.PteX, api.Load: api.PteR, api.Store: api.PteW}[access]
			pa, perm, fault := page.Guest(w.m, s.Root(), number*size+off, access)
			if mapped && x.Perm&right != 0 {
				if pa != w.at(x.Frame)+off || perm != x.Perm || fault != api.FaultNone {
					w.t.Fatalf("P10.6: page %#x, access %d: %#x, %#x, %d, not %v", number, access, pa, perm, fault, x)
				}
			} else if pa != 0 || perm != 0 || fault != api.FaultGuest {
				w.t.Fatalf("P10.6: page %#x, access %d: %#x, %#x, %d, and it is %v", number, access, pa, perm, fault, x)
			}
		}
	}
}

// tells fails if the space does not tell these pages and no others, by Pages, by Find and by its tables.
func (w *world) tells(s *stage.Space, want ...api.Page) {
	w.t.Helper()
	if got := s.Pages(); !slices.Equal(got, want) {
		w.t.Fatalf("P10.3: Pages = %v, not %v", got, want)
	}
	near := []uint64{0, 1, 511, 512, 513, 1<<18 - 1, 1 << 18, 1<<18 + 512, highest - 1, highest}
	for _, x := range want {
		w.found(s, x.Page, x, true)
		near = append(near, x.Page-1, x.Page+1, x.Page^1<<9, x.Page^1<<18, x.Page^1<<26, x.Page+512, x.Page+1<<18)
	}
	for _, number := range append(near, notPages...) {
		if !slices.ContainsFunc(want, func(x api.Page) bool { return x.Page == number }) {
			w.found(s, number, api.Page{}, false)
		}
	}
}

// found fails if Find, or the tables, say otherwise of a page. (Addresses from 2^64 on are those from 0 on: of pages from 2^52 on the tables are not asked.)
func (w *world) found(s *stage.Space, number uint64, want api.Page, mapped bool) {
	w.t.Helper()
	if got, ok := s.Find(number); got != want || ok != mapped {
		w.t.Fatalf("P10.3: Find(%#x) = %v, %v, not %v, %v", number, got, ok, want, mapped)
	}
	if number < 1<<52 {
		w.guest(s, number, want, mapped)
	}
}

// has fails if the space's tables are others, or if one of them is not the monitor's.
func (w *world) has(s *stage.Space, want ...int) {
	w.t.Helper()
	if got := s.Tables(); !slices.Equal(got, want) {
		w.t.Fatalf("P10.3: Tables = %v, not %v", got, want)
	}
	for _, f := range want {
		if w.p.Owner(f) != api.Monitor {
			w.t.Fatalf("P10.6: frame %d, a table's, has %d", f, w.p.Owner(f))
		}
	}
}
