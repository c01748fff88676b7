package iommu_test

import (
	"math/rand"
	"testing"

	"citadel/api"
	"citadel/iommu"
)

// answers does deeds, and tells what those answer that of picks.
func (w world) answers(deeds []deed, of func(deed) bool) []answer {
	var list []answer
	for _, d := range deeds {
		if a := w.do(d); of(d) {
			list = append(list, a)
		}
	}
	return list
}

// fair are deeds by which the entries of all devices always say what their tables say: whatever turns a table, or which
// one it is, is followed by what lets the entries go. (An entry may say less than its table: it is asked again then.)
func (l life) fair(n int) []deed {
	var list []deed
	for len(list) < n {
		d := l.deed()
		switch {
		case d.kind == ring, d.kind == next, d.kind == clearFlag:
			continue
		case d.kind == write && d.addr >= l.w.at(7):
			continue
		case d.kind == write:
			list = append(list, d)
			for dev := range api.MaxDevs {
				list = append(list, deed{kind: invalidate, dev: dev})
			}
			continue
		}
		list = append(list, d)
		if d.kind == set {
			list = append(list, deed{kind: invalidate, dev: d.dev})
		}
	}
	return list
}

// twin is a world with the same memory as l's, the same tables and ring, and a TLB of its own.
func (l life) twin(t *testing.T, room int) world {
	t.Helper()
	m := l.w.m.Copy()
	u, e := iommu.New(m, room)
	if e != api.OK {
		t.Fatal(e)
	}
	w := world{t, m, u}
	for dev := range api.MaxDevs {
		if l.w.Root(dev) != 0 {
			w.ok(w.Set(dev, l.w.Root(dev)))
		}
	}
	w.ok(w.Ring(w.at(7)))
	return w
}

// differ fails if two lists are not the same.
func differ(t *testing.T, promise string, got, want []answer) {
	t.Helper()
	if len(got) != len(want) {
		t.Fatalf("%s: %d answers, not %d", promise, len(got), len(want))
	}
	for i := range got {
		if got[i] != want[i] {
			t.Fatalf("%s: the answer %d is %+v, not %+v", promise, i, got[i], want[i])
		}
	}
}

// P7.6: as long as the TLB's entries say what the tables say, what an access comes to does not hang on the TLB: on its
// room, on what was evicted, on what was forgotten ahead of every access.
func TestNothingHangsOnTheTLB(t *testing.T) {
	isAccess := func(d deed) bool { return d.kind == access || d.kind == message }
	came := 0
	for seed := range int64(40) {
		l := life{rand.New(rand.NewSource(seed)), newWorld(t, some(rand.New(rand.NewSource(seed)), bases...), frames, 1), 0, true}
		l.begin()
		deeds := l.fair(400)
		want := l.twin(t, api.MaxTLB).answers(deeds, isAccess)
		for _, room := range []int{1, 2, 5} {
			differ(t, "P7.6", l.twin(t, room).answers(deeds, isAccess), want)
		}
		var kept, flushed []deed
		for _, d := range deeds {
			if d.kind != evict {
				kept = append(kept, d)
			}
			for dev := range api.MaxDevs {
				flushed = append(flushed, deed{kind: invalidate, dev: dev})
			}
			flushed = append(flushed, d)
		}
		differ(t, "P7.6", l.twin(t, api.MaxTLB).answers(kept, isAccess), want)
		differ(t, "P7.6", l.twin(t, api.MaxTLB).answers(flushed, isAccess), want)
		for _, a := range want {
			if a.ok {
				came++
			}
		}
	}
	if came < 1000 {
		t.Errorf("only %d came to something", came)
	}
}

// P7.6: devices know nothing of one another: what one is answered is the same without all that others do.
func TestDevicesAreAlone(t *testing.T) {
	came, others := 0, 0
	for seed := range int64(40) {
		l := life{rand.New(rand.NewSource(seed)), newWorld(t, 0, frames, 1), 0, true}
		l.begin()
		deeds := l.fair(600)
		for _, dev := range []int{0, 1, 7} {
			isOwn := func(d deed) bool { return d.dev == dev && d.kind != write && d.kind != evict }
			var own []deed
			for _, d := range deeds {
				if isOwn(d) || d.kind == write {
					own = append(own, d)
				}
			}
			others += len(deeds) - len(own)
			want := l.twin(t, 4).answers(own, isOwn)
			differ(t, "P7.6", l.twin(t, 4).answers(deeds, isOwn), want)
			for _, a := range want {
				if a.ok {
					came++
				}
			}
		}
	}
	if came < 1000 || others < 1000 {
		t.Errorf("%d came to something, beside %d of others", came, others)
	}
}

// R4: two IOMMUs over one memory have nothing else in common.
func TestTwoOfOneMemory(t *testing.T) {
	w := plain(t, 0, 4)
	w.ok(w.Remap(1, 3, api.Msi{Guest: 2, Irq: 9}))
	w.comes("P7.2", 1, 5*size, 8, true, 9*size)
	u, e := iommu.New(w.m, 4)
	if e != api.OK {
		t.Fatal(e)
	}
	x := world{t, w.m, u}
	x.has("R4")
	if x.Root(1) != 0 {
		t.Error("R4: a table")
	}
	x.stops("R4", 1, 5*size, 8, true)
	x.silent("R4", true)
	w.silent("R4", false)
	if to, ok := x.Message(1, api.MsiBase, 3); ok || to != (api.Msi{}) {
		t.Errorf("R4: %v, %v", to, ok)
	}
	x.ok(x.Set(1, 4))
	x.ok(x.Ring(14 * size))
	x.Invalidate(1)
	w.comes("R4", 1, 5*size, 8, true, 9*size)
	x.blocks("R4", 14*size, 1, 5*size, 8, true, api.BlockPage)
	w.blocks("R4", w.place(0), 1, 4*size, 8, true, api.BlockPage)
	x.Clear()
	w.silent("R4", false)
}
