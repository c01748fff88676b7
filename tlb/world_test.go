package tlb_test

import (
	"math"
	"slices"
	"testing"

	"citadel/api"
	"citadel/tlb"
)

const ones = math.MaxUint64

// vmids are the ones that guests have, and some that no guest has: a TLB takes them all.
var vmids = []int{0, 1, 2, api.MaxVmid, api.MaxVmid + 1, -1, -2, 1 << 32, math.MinInt, math.MaxInt}

// pages are numbers that guests have, and some that no address comes to.
var pages = []uint64{0, 1, 2, 5, 1<<27 - 1, 1 << 32, 1 << 52, 1 << 63, ones - 1, ones}

// world is a TLB under test.
type world struct {
	t *testing.T
	*tlb.TLB
}

func newWorld(t *testing.T, room int) world {
	t.Helper()
	x, e := tlb.New(room)
	if x == nil || e != api.OK {
		t.Fatalf("P5.1: New(%d): %v, %d", room, x, e)
	}
	return world{t, x}
}

// filled is a TLB into which the entries were put.
func filled(t *testing.T, room int, entries ...api.Trans) world {
	t.Helper()
	w := newWorld(t, room)
	for _, e := range entries {
		w.Put(e)
	}
	w.has("P5.1", entries...)
	return w
}

// has fails if the entries are not those, in that order.
func (w world) has(promise string, want ...api.Trans) {
	w.t.Helper()
	if got := w.Entries(); !slices.Equal(got, want) {
		w.t.Errorf("%s: Entries = %v, not %v", promise, got, want)
	}
}

// finds fails if Look does not tell that entry of its page.
func (w world) finds(promise string, want api.Trans) {
	w.t.Helper()
	if got, ok := w.Look(want.Vmid, want.Page); !ok || got != want {
		w.t.Errorf("%s: Look(%d, %#x) = %v, %v, not %v", promise, want.Vmid, want.Page, got, ok, want)
	}
}

// misses fails if Look tells anything of a page.
func (w world) misses(promise string, vmid int, page uint64) {
	w.t.Helper()
	if got, ok := w.Look(vmid, page); ok || got != (api.Trans{}) {
		w.t.Errorf("%s: Look(%d, %#x) = %v, %v", promise, vmid, page, got, ok)
	}
}

// entry is one whose frame and whose permission no other page's of a test has.
func entry(vmid int, page uint64) api.Trans {
	return api.Trans{Vmid: vmid, Page: page, Frame: 1000*uint64(vmid) + page + 7, Perm: api.PteR | int(page)<<8}
}

// row are so many entries of one VMID, of the pages from 0 on.
func row(vmid, n int) []api.Trans {
	var r []api.Trans
	for i := range n {
		r = append(r, entry(vmid, uint64(i)))
	}
	return r
}

// without is a list without its element i.
func without(list []api.Trans, i int) []api.Trans {
	return slices.Concat(list[:i], list[i+1:])
}
