package iommu_test

import (
	"math"
	"slices"
	"testing"

	"citadel/api"
)

// mixed is a world whose devices 0, 1 and 7 have a table each, by which pages 0 to 3 are frames of that device alone,
// and the entries of all of them by turns.
func mixed(t *testing.T) (world, []api.Trans) {
	t.Helper()
	w := newWorld(t, 0, 32, 16)
	for i, dev := range []int{0, 1, 7} {
		w.ok(w.Set(dev, uint64(1+3*i)))
		for p := range uint64(4) {
			w.lead(1+3*i, p*size, 0, pte(uint64(12+4*i)+p, full))
		}
	}
	var all []api.Trans
	for p := range uint64(4) {
		for i, dev := range []int{0, 1, 7} {
			e := api.Trans{Vmid: dev, Page: p, Frame: uint64(12+4*i) + p, Perm: rwx}
			w.comes("P7.2", dev, p*size, 8, true, e.Frame*size)
			all = append(all, e)
		}
	}
	w.has("P7.5", all...)
	return w, all
}

// left are the entries of a list for which gone is false.
func left(list []api.Trans, gone func(api.Trans) bool) []api.Trans {
	return slices.DeleteFunc(slices.Clone(list), gone)
}

// P7.5: Invalidate lets the entries of that device go, and no other's; of no device, or of one without entries, none.
func TestInvalidate(t *testing.T) {
	for _, dev := range append([]int{0, 1, 2, 3, 6, 7}, noDevs...) {
		w, all := mixed(t)
		was := w.all()
		for range 2 {
			w.Invalidate(dev)
			w.has("P7.5", left(all, func(e api.Trans) bool { return e.Vmid == dev })...)
		}
		w.untouched("P7.5", was)
		w.silent("P7.5", false)
		for _, d := range []int{0, 1, 7} {
			if w.Root(d) == 0 {
				t.Error("P7.5: a table has gone")
			}
		}
	}
}

// P7.5: InvalidatePage lets the entry of that device's page go, and no other.
func TestInvalidatePage(t *testing.T) {
	for _, dev := range append([]int{0, 1, 2, 3, 6, 7}, noDevs...) {
		for _, p := range []uint64{0, 1, 2, 3, 4, 5, 1 << 27, 1 << 52, 1 << 63, ones} {
			w, all := mixed(t)
			was := w.all()
			for range 2 {
				w.InvalidatePage(dev, p)
				w.has("P7.5", left(all, func(e api.Trans) bool { return e.Vmid == dev && e.Page == p })...)
			}
			w.untouched("P7.5", was)
			w.silent("P7.5", false)
		}
	}
}

// P7.5, P7.2: what is invalidated is asked of the table again.
func TestInvalidatedIsAskedAgain(t *testing.T) {
	for _, forget := range []func(w world){
		func(w world) { w.Invalidate(1) },
		func(w world) { w.InvalidatePage(1, 2) },
		func(w world) { w.Evict(7) },
	} {
		w, all := mixed(t)
		if all[7] != (api.Trans{Vmid: 1, Page: 2, Frame: 18, Perm: rwx}) {
			t.Fatal(all[7])
		}
		w.lead(4, 2*size, 0, pte(30, full))
		w.comes("P7.2", 1, 2*size, 8, true, 18*size)
		forget(w)
		w.comes("P7.2", 1, 2*size, 8, true, 30*size)
		w.comes("P7.2", 0, 2*size, 8, true, 14*size)
	}
}

// P7.5: Evict lets one entry go, whose device it may be, and tells whether it was there.
func TestEvict(t *testing.T) {
	_, all := mixed(t)
	for i := range all {
		w, _ := mixed(t)
		if !w.Evict(i) {
			t.Errorf("P7.5: Evict(%d) is false", i)
		}
		w.has("P7.5", slices.Concat(all[:i], all[i+1:])...)
	}
	w, _ := mixed(t)
	for _, i := range []int{-1, len(all), len(all) + 1, 16, 64, math.MinInt, math.MaxInt} {
		if w.Evict(i) {
			t.Errorf("P7.5: Evict(%d) is true", i)
		}
		w.has("P7.5", all...)
	}
	for range all {
		if !w.Evict(0) {
			t.Error("P7.5: Evict(0) is false")
		}
	}
	if w.Evict(0) {
		t.Error("P7.5: Evict(0) of none is true")
	}
	w.has("P7.5")
}

// R3: what Entries answers is new memory, spare room too.
func TestEntriesAreNew(t *testing.T) {
	w, all := mixed(t)
	got := w.Entries()
	other := w.Entries()
	for i := range got[:cap(got)] {
		got[:cap(got)][i] = api.Trans{Vmid: -9}
	}
	if !slices.Equal(other, all) {
		t.Error("R3: two answers share memory")
	}
	w.has("R3", all...)
	w.comes("P7.2", 1, size, 8, true, 17*size)
}
