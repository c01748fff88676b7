package tlb_test

import (
	"math"
	"slices"
	"testing"

	"citadel/api"
)

// mixed are so many entries, by turns of three VMIDs, of pages that the VMIDs share.
func mixed(n int) []api.Trans {
	var m []api.Trans
	for i := range n {
		m = append(m, entry(1+i%3, uint64(i/3)))
	}
	return m
}

// left are the entries of a list for which gone is false.
func left(list []api.Trans, gone func(api.Trans) bool) []api.Trans {
	return slices.DeleteFunc(slices.Clone(list), gone)
}

// P5.2: Evict lets one entry go, the first, the last or another, and the order of the others stays.
func TestEvict(t *testing.T) {
	for _, n := range []int{1, 2, 3, 7, api.MaxTLB} {
		for _, room := range []int{n, api.MaxTLB} {
			all := mixed(n)
			for i := range all {
				w := filled(t, room, all...)
				if !w.Evict(i) {
					t.Errorf("P5.2: of %d, Evict(%d) is false", n, i)
				}
				w.has("P5.2", without(all, i)...)
				w.misses("P5.2", all[i].Vmid, all[i].Page)
			}
		}
	}
}

// P5.2: of an entry that is not there Evict is false, and nothing is gone.
func TestEvictOfNone(t *testing.T) {
	for _, n := range []int{0, 1, 2, 5, api.MaxTLB} {
		for _, room := range []int{max(n, 1), api.MaxTLB} {
			all := mixed(n)
			w := filled(t, room, all...)
			for _, i := range []int{-1, -2, -n, -n - 1, math.MinInt, n, n + 1, api.MaxTLB, api.MaxTLB + 1, 1 << 32, math.MaxInt} {
				if i >= 0 && i < n {
					continue
				}
				if w.Evict(i) {
					t.Errorf("P5.2: of %d, Evict(%d) is true", n, i)
				}
				w.has("P5.2", all...)
			}
		}
	}
}

// P5.2: what is evicted by and by is gone; there is room for as many again, and the places count from what is left.
func TestEvictAll(t *testing.T) {
	for _, first := range []bool{true, false} {
		all := mixed(5)
		w := filled(t, 5, all...)
		for len(all) > 0 {
			i := 0
			if !first {
				i = len(all) - 1
			}
			if w.Evict(len(all)) || !w.Evict(i) {
				t.Errorf("P5.2: of %d, Evict(%d)", len(all), i)
			}
			all = without(all, i)
			w.has("P5.2", all...)
		}
		if w.Evict(0) {
			t.Error("P5.2: Evict(0) of an empty TLB is true")
		}
		for _, e := range mixed(5) {
			w.Put(e)
		}
		w.has("P5.1", mixed(5)...)
	}
}

// P5.2, P5.3: Flush takes none, some or all: those of that VMID, and turns no other's.
func TestFlush(t *testing.T) {
	for _, n := range []int{0, 1, 2, 3, 7, 10, api.MaxTLB} {
		for _, all := range [][]api.Trans{mixed(n), row(2, n), row(-1, n)} {
			for _, room := range []int{max(n, 1), api.MaxTLB} {
				for _, vmid := range vmids {
					w := filled(t, room, all...)
					w.Flush(vmid)
					w.has("P5.2", left(all, func(e api.Trans) bool { return e.Vmid == vmid })...)
				}
			}
		}
	}
}

// P5.2: FlushPage takes the one of that VMID and page, wherever it stands, and neither the VMID's other pages nor the page under another VMID.
func TestFlushPage(t *testing.T) {
	for _, n := range []int{1, 2, 3, 7, 10, api.MaxTLB} {
		for _, room := range []int{n, api.MaxTLB} {
			all := mixed(n)
			for i, gone := range all {
				w := filled(t, room, all...)
				w.FlushPage(gone.Vmid, gone.Page)
				w.has("P5.2", without(all, i)...)
				w.misses("P5.2", gone.Vmid, gone.Page)
				w.FlushPage(gone.Vmid, gone.Page)
				w.has("P5.2", without(all, i)...)
			}
		}
	}
}

// P5.2: a page that is not there, or only under another VMID, takes nothing along.
func TestFlushPageOfNone(t *testing.T) {
	all := []api.Trans{entry(1, 5), entry(2, 5), entry(2, 6), entry(5, 1)}
	w := filled(t, 4, all...)
	for _, vmid := range vmids {
		for _, page := range pages {
			if !slices.Contains(all, entry(vmid, page)) {
				w.FlushPage(vmid, page)
				w.has("P5.2", all...)
			}
		}
	}
	w.FlushPage(1, 5)
	w.has("P5.2", all[1:]...)
	w.finds("P5.3", entry(2, 5))
}

// R5: a VMID below 0, or far above MaxVmid, is flushed as any other.
func TestFlushAnyNumbers(t *testing.T) {
	for _, vmid := range vmids {
		var all []api.Trans
		for _, v := range vmids {
			all = append(all, api.Trans{Vmid: v, Page: 3, Frame: 1}, api.Trans{Vmid: v, Page: ones, Frame: 2})
		}
		w := filled(t, len(all), all...)
		w.Flush(vmid)
		w.has("P5.2", left(all, func(e api.Trans) bool { return e.Vmid == vmid })...)
		w = filled(t, len(all), all...)
		w.FlushPage(vmid, ones)
		w.has("P5.2", left(all, func(e api.Trans) bool { return e.Vmid == vmid && e.Page == ones })...)
	}
}

// P5.2: FlushAll takes all, of every VMID; the TLB is as it was at its beginning.
func TestFlushAll(t *testing.T) {
	for _, n := range []int{0, 1, 2, 7, api.MaxTLB} {
		for _, room := range []int{max(n, 1), api.MaxTLB} {
			all := mixed(n)
			w := filled(t, room, all...)
			for range 2 {
				w.FlushAll()
				w.has("P5.2")
			}
			for _, e := range all {
				w.misses("P5.2", e.Vmid, e.Page)
			}
			more := row(9, 2*room)
			for i, e := range more {
				w.Put(e)
				w.has("P5.1", more[max(0, i+1-room):i+1]...)
			}
		}
	}
}

// P5.2: behind a flush the next ones that are put stand behind what is left, and the first of these goes first.
func TestPutBehindFlush(t *testing.T) {
	all := []api.Trans{entry(1, 1), entry(2, 1), entry(1, 2), entry(2, 2)}
	w := filled(t, 4, all...)
	w.Flush(1)
	w.Put(entry(3, 1))
	w.Put(entry(3, 2))
	w.has("P5.2", all[1], all[3], entry(3, 1), entry(3, 2))
	w.Put(entry(1, 1))
	w.has("P5.1", all[3], entry(3, 1), entry(3, 2), entry(1, 1))
}
