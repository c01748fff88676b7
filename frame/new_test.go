package frame_test

import (
	"math"
	"testing"

	"citadel/api"
	"citadel/frame"
	"citadel/ram"
)

// The chapter's example.
func TestExample(t *testing.T) {
	w := newWorld(t, 4, 1, 2)
	w.gives(1, 1)
	w.gives(2, 2)
	w.lets(1)
	w.gives(2, 3)
	if f, e := w.Take(2); f != 0 || e != api.ErrFrames {
		t.Errorf("P9.2: Take(2) = %d, %d", f, e)
	}
	w.freed(0, 2, 0)
	w.freed(1, 2, 0)
	w.freed(2, 2, 1)
	w.gives(2, 1)
	if e := w.Release(0); e != api.ErrOwner {
		t.Errorf("P9.2: Release(0) = %d", e)
	}
}

// P9.1: the first reserved frames are the monitor's, all others free, at every number of both.
func TestNew(t *testing.T) {
	for _, frames := range []int{1, 2, 7, api.MaxFrames} {
		for _, reserved := range []int{0, 1, 2, frames / 2, frames - 1, frames} {
			if reserved > frames {
				continue
			}
			for _, harts := range []int{1, 2, api.MaxHarts - 1, api.MaxHarts} {
				w := newWorld(t, frames, reserved, harts)
				for f := range frames {
					want := api.Free
					if f < reserved {
						want = api.Monitor
					}
					if w.Owner(f) != want || w.Waits(f) != 0 {
						t.Fatalf("P9.1: of %d frames, %d reserved, frame %d has %d and waits for %#x", frames, reserved, f, w.Owner(f), w.Waits(f))
					}
				}
				if w.Count(api.Monitor) != reserved || w.Count(api.Free) != frames-reserved {
					t.Fatalf("P9.1: of %d frames, %d reserved: %d and %d", frames, reserved, w.Count(api.Monitor), w.Count(api.Free))
				}
			}
		}
	}
}

// P9.1: what may not be is refused, and there is no pool; either number alone is enough.
func TestNewRefused(t *testing.T) {
	for _, frames := range []int{1, 4, api.MaxFrames} {
		m := memory(t, 0, frames)
		refused := func(reserved, harts int) {
			t.Helper()
			if p, e := frame.New(m, reserved, harts); p != nil || e != api.ErrArg {
				t.Errorf("P9.1: New of %d frames, %d, %d = %v, %d", frames, reserved, harts, p, e)
			}
		}
		for _, reserved := range []int{-1, -2, -frames, frames + 1, frames + 2, 2 * frames, api.MaxFrames + 1, 1 << 32, -1 << 32, math.MinInt, math.MaxInt} {
			for _, harts := range []int{1, 2, api.MaxHarts} {
				refused(reserved, harts)
			}
		}
		for _, harts := range []int{0, -1, -api.MaxHarts, api.MaxHarts + 1, api.MaxHarts + 2, 63, 64, 65, 1 << 32, 1<<32 + 1, math.MinInt, math.MaxInt} {
			for _, reserved := range []int{-1, 0, 1, frames, frames + 1} {
				refused(reserved, harts)
			}
		}
	}
}

// P9.1: Owner of no frame is Monitor, Waits of it 0; it counts nowhere.
func TestNoFrame(t *testing.T) {
	for _, frames := range []int{1, 4, api.MaxFrames - 1, api.MaxFrames} {
		for _, reserved := range []int{0, frames} {
			w := newWorld(t, frames, reserved, 2)
			for _, f := range notFrames(frames) {
				if w.Owner(f) != api.Monitor || w.Waits(f) != 0 {
					t.Errorf("P9.1: of %d frames, %d has %d and waits for %#x", frames, f, w.Owner(f), w.Waits(f))
				}
			}
			if w.Count(api.Monitor) != reserved {
				t.Errorf("P9.1: Count(Monitor) = %d, not %d", w.Count(api.Monitor), reserved)
			}
		}
	}
}

// P9.1: Count tells each owner's alone; of numbers that are no owner's it is 0, also where every frame is in use.
func TestCount(t *testing.T) {
	w := newWorld(t, 40, 3, 2)
	want := map[int]int{api.Monitor: 3, api.Free: 37}
	for i, owner := range takers {
		for range 1 + i%4 {
			w.Take(owner)
			want[owner]++
			want[api.Free]--
		}
	}
	for _, f := range []int{4, 9, 12} {
		want[w.Owner(f)]--
		want[api.Limbo]++
		w.lets(f)
	}
	for _, owner := range owners {
		if w.Count(owner) != want[owner] {
			t.Errorf("P9.1: Count(%d) = %d, not %d", owner, w.Count(owner), want[owner])
		}
	}
	for range 40 {
		w.Take(api.Monitor)
	}
	for _, owner := range nobodies {
		if w.Count(owner) != 0 {
			t.Errorf("P9.1: Count(%d) = %d", owner, w.Count(owner))
		}
	}
}

// P9.1: frames are counted from 0 on, wherever the memory lies, and New turns no byte.
func TestAnyBase(t *testing.T) {
	for _, base := range []uint64{0, page, api.RamBase, 1 << 52} {
		m := memory(t, base, 4)
		was, _ := m.Bytes(base, 4*page)
		w := over(t, m, 1, 1)
		if string(w.all()) != string(was) {
			t.Errorf("P9.1: New over a memory from %#x on turns bytes", base)
		}
		w.gives(3, 1)
		w.gives(3, 2)
		w.lets(2)
		w.freed(1, 1, 0)
		w.freed(0, 1, 1)
		w.holds("P9.3", 2, 0)
		clear(was[2*page : 3*page])
		if string(w.all()) != string(was) {
			t.Errorf("P9.3: another frame of a memory from %#x on was cleared", base)
		}
	}
}

// R1, P9.2: a pool all of whose frames are reserved gives none and takes none back, and hears acknowledgements.
func TestAllReserved(t *testing.T) {
	m := memory(t, 0, 3)
	w := over(t, m, 3, api.MaxHarts)
	was := w.shot()
	for _, owner := range takers {
		if f, e := w.Take(owner); f != 0 || e != api.ErrFrames {
			t.Errorf("P9.2: Take(%d) = %d, %d", owner, f, e)
		}
	}
	for f := -1; f <= 3; f++ {
		if e := w.Release(f); e != api.ErrOwner {
			t.Errorf("P9.2: Release(%d) = %d", f, e)
		}
	}
	w.round(api.MaxHarts, 0)
	w.still("P9.2", was)
}

// R4: two pools have nothing in common: each over a memory of its own, or both over the same (which is the only thing that they share).
func TestTwo(t *testing.T) {
	one := memory(t, 0, 4)
	for _, m := range []*ram.RAM{one, memory(t, 0, 4)} {
		a, b := over(t, one, 1, 2), over(t, m, 2, 3)
		b.gives(5, 2)
		b.lets(2)
		owners, waits := []int{}, []uint64{}
		for f := range 4 {
			owners, waits = append(owners, b.Owner(f)), append(waits, b.Waits(f))
		}
		a.gives(1, 1)
		a.gives(2, 2)
		a.lets(1)
		a.round(2, 1)
		a.gives(3, 1)
		a.lets(2)
		for f := range 4 {
			if b.Owner(f) != owners[f] || b.Waits(f) != waits[f] {
				t.Errorf("R4: frame %d of the other pool has %d and waits for %#x", f, b.Owner(f), b.Waits(f))
			}
		}
		if a.Waits(2) != everybody(2) || b.Waits(2) != everybody(3) {
			t.Errorf("R4: they wait for %#x and %#x", a.Waits(2), b.Waits(2))
		}
	}
}
