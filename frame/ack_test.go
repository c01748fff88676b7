package frame_test

import (
	"testing"

	"citadel/api"
)

// orders are all orders of the numbers below n.
func orders(n int) [][]int {
	if n == 0 {
		return [][]int{{}}
	}
	var all [][]int
	for _, o := range orders(n - 1) {
		for at := range n {
			next := append(append(append([]int{}, o[:at]...), n-1), o[at:]...)
			all = append(all, next)
		}
	}
	return all
}

// bitOf is the bit of a hart, or of the devices, whose number is that of harts.
func bitOf(who, harts int) uint64 {
	if who == harts {
		return devices
	}
	return 1 << who
}

// acknowledged has all acknowledge in that order, each once or twice, and looks at frame 1 behind each.
func acknowledged(t *testing.T, order []int, times int) {
	t.Helper()
	harts := len(order) - 1
	w := newWorld(t, 3, 1, harts)
	w.gives(1, 1)
	w.mark(1, 0x5a)
	w.lets(1)
	waits := everybody(harts)
	for i, who := range order {
		last := i == len(order)-1
		waits &^= bitOf(who, harts)
		for n := range times {
			want := 0
			if last && n == 0 {
				want = 1
			}
			w.freed(who, harts, want)
			if w.Waits(1) != waits {
				t.Fatalf("P9.3: %v: behind %d frame 1 waits for %#x, not %#x", order, who, w.Waits(1), waits)
			}
		}
		if last {
			break
		}
		if w.Owner(1) != api.Limbo {
			t.Fatalf("P9.3: %v: behind %d frame 1 has %d", order, who, w.Owner(1))
		}
		w.holds("P9.3", 1, 0x5a)
	}
	if w.Owner(1) != api.Free {
		t.Fatalf("P9.3: %v: frame 1 has %d", order, w.Owner(1))
	}
	w.holds("P9.3", 1, 0)
}

// P9.3: in every order of harts and devices, each once or twice, only the last one frees the frame, and clears it then.
func TestEveryOrder(t *testing.T) {
	for harts := 1; harts <= 4; harts++ {
		for _, order := range orders(harts + 1) {
			acknowledged(t, order, 1)
			acknowledged(t, order, 2)
		}
	}
}

// P9.3: the same of as many harts as there may be, with the devices first, last and at each place between, the harts rising and falling.
func TestManyHarts(t *testing.T) {
	for harts := 5; harts <= api.MaxHarts; harts++ {
		for at := range harts + 1 {
			for _, falling := range []bool{false, true} {
				var order []int
				for h := range harts {
					if falling {
						h = harts - 1 - h
					}
					order = append(order, h)
				}
				order = append(order[:at], append([]int{harts}, order[at:]...)...)
				acknowledged(t, order, 1)
				acknowledged(t, order, 3)
			}
		}
	}
}

// P9.3: of a hart that is none nothing: those between the pool's harts and MaxHarts, and the numbers of the devices' bit and beyond it; at each state of a frame, up to where only that bit is left.
func TestAckOfNoHart(t *testing.T) {
	for harts := 1; harts <= api.MaxHarts; harts++ {
		for at := range harts + 1 {
			w := newWorld(t, 2, 0, harts)
			w.gives(2, 0)
			w.mark(0, 3)
			w.lets(0)
			for i := range harts + 1 {
				was := w.shot()
				for _, h := range notHarts(harts) {
					if n := w.Ack(h); n != 0 {
						t.Errorf("P9.3: with %d harts Ack(%d) = %d", harts, h, n)
					}
				}
				w.still("P9.3", was)
				who := (at + i) % (harts + 1)
				want := 0
				if i == harts {
					want = 1
				}
				w.freed(who, harts, want)
			}
		}
	}
}

// P9.3: an acknowledgement ahead of the release does not count.
func TestAckAheadOfRelease(t *testing.T) {
	w := newWorld(t, 3, 1, 2)
	w.gives(1, 1)
	w.round(2, 0)
	w.lets(1)
	if w.Waits(1) != everybody(2) {
		t.Errorf("P9.3: frame 1 waits for %#x", w.Waits(1))
	}
	w.freed(2, 2, 0)
	w.freed(0, 2, 0)
	w.freed(1, 2, 1)
	// Nor does one of an earlier time in limbo.
	w.gives(2, 1)
	w.lets(1)
	if w.Waits(1) != everybody(2) {
		t.Errorf("P9.3: frame 1, released again, waits for %#x", w.Waits(1))
	}
	w.freed(1, 2, 0)
	w.freed(1, 2, 0)
	w.freed(2, 2, 0)
	w.freed(0, 2, 1)
}

// P9.3: frames that were released at different times become free each when its own last one has acknowledged; the answer counts those that became free by this one alone.
func TestDifferentTimes(t *testing.T) {
	w := newWorld(t, 8, 1, 2)
	for f := 1; f < 8; f++ {
		w.gives(1, f)
		w.mark(f, byte(f))
	}
	waits := func(want ...uint64) {
		t.Helper()
		for i, bits := range want {
			if w.Waits(1+i) != bits {
				t.Fatalf("P9.3: frame %d waits for %#x, not %#x", 1+i, w.Waits(1+i), bits)
			}
		}
	}
	all := everybody(2)
	w.lets(1)
	w.freed(0, 2, 0)
	w.lets(2)
	w.lets(3)
	waits(all&^1, all, all, 0)
	w.freed(2, 2, 0)
	w.lets(4)
	waits(2, 3, 3, all, 0)
	w.freed(1, 2, 1)
	waits(0, 1, 1, all&^2, 0)
	w.lets(5)
	waits(0, 1, 1, all&^2, all, 0)
	w.freed(0, 2, 2)
	waits(0, 0, 0, devices, all&^1, 0)
	w.lets(6)
	w.freed(1, 2, 0)
	waits(0, 0, 0, devices, devices, all&^2, 0)
	w.freed(2, 2, 2)
	waits(0, 0, 0, 0, 0, 1, 0)
	w.freed(0, 2, 1)
	for f := 1; f < 7; f++ {
		if w.Owner(f) != api.Free {
			t.Errorf("P9.3: frame %d has %d", f, w.Owner(f))
		}
		w.holds("P9.3", f, 0)
	}
	w.holds("P9.3", 7, 7)
	if w.Owner(7) != 1 {
		t.Errorf("P9.3: frame 7 has %d", w.Owner(7))
	}
}

// P9.3: the answer is how many became free, up to all frames of the greatest memory.
func TestManyFrames(t *testing.T) {
	for _, n := range []int{0, 1, 2, 500, api.MaxFrames} {
		w := newWorld(t, api.MaxFrames, 0, 1)
		for range api.MaxFrames {
			w.Pool.Take(3)
		}
		for i := range n {
			w.Pool.Release(api.MaxFrames - 1 - i)
		}
		w.adds()
		w.freed(1, 1, 0)
		w.freed(0, 1, n)
		w.freed(0, 1, 0)
		w.freed(1, 1, 0)
		if w.Count(api.Free) != n || w.Count(api.Limbo) != 0 {
			t.Errorf("P9.3: of %d frames %d are free, %d in limbo", n, w.Count(api.Free), w.Count(api.Limbo))
		}
	}
}

// P9.3: Waits is 0 of frames that are reserved, free, taken, or none.
func TestWaitsOfOthers(t *testing.T) {
	w := newWorld(t, 6, 1, 3)
	for f := 1; f < 5; f++ {
		w.gives(takers[f%2], f)
	}
	w.lets(2)
	w.lets(3)
	for _, f := range append(notFrames(6), 0, 1, 4, 5) {
		if w.Waits(f) != 0 {
			t.Errorf("P9.3: frame %d waits for %#x", f, w.Waits(f))
		}
	}
	w.round(3, 2)
	w.gives(1, 2)
	for f := range 6 {
		if w.Waits(f) != 0 {
			t.Errorf("P9.3: frame %d waits for %#x", f, w.Waits(f))
		}
	}
}

// P9.3: Waits, Owner and Count turn nothing, whatever they are asked.
func TestAskingTurnsNothing(t *testing.T) {
	w := over(t, memory(t, 0, 4), 1, 2)
	w.gives(1, 1)
	w.gives(2, 2)
	w.lets(1)
	w.freed(0, 2, 0)
	was := w.shot()
	for range 3 {
		for _, f := range append(notFrames(4), 0, 1, 2, 3) {
			w.Waits(f)
			w.Owner(f)
			w.Count(f)
		}
	}
	w.still("P9.3", was)
	w.freed(2, 2, 0)
	w.freed(1, 2, 1)
}
