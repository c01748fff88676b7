package frame_test

import (
	"bytes"
	"slices"
	"testing"

	"citadel/api"
)

// P9.2: frames are given from the lowest free one on, to Monitor and each guest, till there is none; then nothing changes.
func TestTakeAll(t *testing.T) {
	for _, frames := range []int{1, 2, 20, api.MaxFrames} {
		for _, reserved := range []int{0, 1, frames / 2} {
			w := newWorld(t, frames, min(reserved, frames), 1)
			for f := min(reserved, frames); f < frames; f++ {
				owner := takers[f%len(takers)]
				if got, e := w.Pool.Take(owner); got != f || e != api.OK || w.Owner(f) != owner {
					t.Fatalf("P9.2: Take(%d) = %d, %d, not %d", owner, got, e, f)
				}
			}
			w.adds()
			was := w.shot()
			for _, owner := range takers {
				if f, e := w.Take(owner); f != 0 || e != api.ErrFrames {
					t.Errorf("P9.2: Take(%d) = %d, %d", owner, f, e)
				}
			}
			w.still("R2", was)
		}
	}
}

// P9.2: nobody else is given a frame: not Free, not Limbo, no number beyond the guests; whether one is free or not.
func TestTakeRefused(t *testing.T) {
	for _, reserved := range []int{0, 1, 3} {
		w := newWorld(t, 3, reserved, 2)
		for range 4 - reserved {
			was := w.shot()
			for _, owner := range append([]int{api.Free, api.Limbo}, nobodies...) {
				if f, e := w.Take(owner); f != 0 || e != api.ErrArg {
					t.Errorf("P9.2: Take(%d) = %d, %d", owner, f, e)
				}
			}
			w.still("R2", was)
			w.Take(4)
		}
	}
}

// P9.2: what is in limbo is not free, though nothing else is left.
func TestTakeBesideLimbo(t *testing.T) {
	w := newWorld(t, 4, 1, 2)
	for f := 1; f < 4; f++ {
		w.gives(f, f)
	}
	w.lets(2)
	w.lets(1)
	for who := range 3 {
		if f, e := w.Take(7); f != 0 || e != api.ErrFrames {
			t.Errorf("P9.2: Take(7) = %d, %d, beside limbo", f, e)
		}
		w.freed(who, 2, []int{0, 0, 2}[who])
	}
	w.gives(7, 1)
	w.gives(api.Monitor, 2)
	if f, e := w.Take(7); f != 0 || e != api.ErrFrames {
		t.Errorf("P9.2: Take(7) = %d, %d", f, e)
	}
}

// P9.2: the lowest free frame is given wherever it lies: between taken ones, ahead of all that is free, at the very end.
func TestTakeTheLowest(t *testing.T) {
	const frames, reserved = 7, 2
	for set := range 1 << (frames - reserved) {
		w := newWorld(t, frames, reserved, 1)
		for f := reserved; f < frames; f++ {
			w.gives(1+f%api.MaxGuests, f)
		}
		var free []int
		for f := frames - 1; f >= reserved; f-- {
			if set>>(f-reserved)&1 == 1 {
				w.lets(f)
				free = append(free, f)
			}
		}
		w.freed(0, 1, 0)
		w.freed(1, 1, len(free))
		slices.Sort(free)
		for _, f := range free {
			w.gives(8, f)
		}
		if f, e := w.Take(8); f != 0 || e != api.ErrFrames {
			t.Fatalf("P9.2: Take(8) = %d, %d", f, e)
		}
	}
}

// P9.2: Take turns no other frame, and no byte of any.
func TestTakeTurnsOne(t *testing.T) {
	w := over(t, memory(t, 3*page, 6), 1, 3)
	for f := 1; f < 6; f++ {
		was := w.shot()
		w.gives(2, f)
		now := w.shot()
		now.owners[f+2] = api.Free
		if !slices.Equal(now.owners, was.owners) || !slices.Equal(now.waits, was.waits) {
			t.Errorf("P9.2: Take of %d turned others: %v", f, now)
		}
		if !bytes.Equal(now.bytes, was.bytes) {
			t.Errorf("P9.2: Take of %d turned bytes", f)
		}
	}
}

// P9.2: a frame of a guest's, and one that was taken for the monitor, go into limbo, and wait for all harts and the devices, and for nobody else; nothing else turns.
func TestRelease(t *testing.T) {
	for harts := 1; harts <= api.MaxHarts; harts++ {
		for _, owner := range takers {
			w := over(t, memory(t, page, 5), 1, harts)
			w.gives(1, 1)
			w.gives(owner, 2)
			w.gives(3, 3)
			was := w.shot()
			w.lets(2)
			if w.Waits(2) != everybody(harts) {
				t.Errorf("P9.2: with %d harts frame 2 waits for %#x", harts, w.Waits(2))
			}
			now := w.shot()
			now.owners[2+2], now.waits[2+2] = owner, 0
			if !slices.Equal(now.owners, was.owners) || !slices.Equal(now.waits, was.waits) || !bytes.Equal(now.bytes, was.bytes) {
				t.Errorf("P9.2: Release(2) turned more: %v, %x", now.owners, now.waits)
			}
		}
	}
}

// P9.2: the first and the last frame can be released, if they are not reserved.
func TestReleaseEnds(t *testing.T) {
	for _, frames := range []int{1, 2, api.MaxFrames} {
		w := newWorld(t, frames, 0, 1)
		for range frames {
			w.Pool.Take(6)
		}
		w.lets(0)
		if frames > 1 {
			w.lets(frames - 1)
		}
		w.round(1, min(frames, 2))
		w.gives(1, 0)
		if frames > 1 {
			w.gives(1, frames-1)
		}
	}
}

// P9.2: ErrOwner, and nothing changes: no such frame, a reserved one, a free one, one in limbo (behind each acknowledgement).
func TestReleaseRefused(t *testing.T) {
	const frames, reserved, harts = 8, 3, 2
	w := over(t, memory(t, 0, frames), reserved, harts)
	for f := reserved; f < 6; f++ {
		w.gives(takers[f%2], f)
	}
	refused := func(list ...int) {
		t.Helper()
		was := w.shot()
		for _, f := range list {
			if e := w.Release(f); e != api.ErrOwner {
				t.Errorf("P9.2: Release(%d) = %d", f, e)
			}
		}
		w.still("R2", was)
	}
	refused(notFrames(frames)...)
	refused(0, 1, 2)
	refused(6, 7)
	w.lets(4)
	for who := range harts {
		refused(4)
		w.freed(who, harts, 0)
	}
	refused(4)
	w.freed(harts, harts, 1)
	refused(4)
	w.gives(1, 4)
	w.lets(4)
	refused(4)
}

// P9.1, P9.2: a reserved frame stays the monitor's, whatever is done; one that was taken for the monitor does not.
func TestReservedForEver(t *testing.T) {
	w := over(t, memory(t, 0, 5), 2, 1)
	w.mark(0, 7)
	w.mark(1, 9)
	for range 3 {
		w.gives(api.Monitor, 2)
		w.gives(1, 3)
		for f := range 4 {
			w.Release(f)
		}
		w.round(1, 2)
		if w.Owner(0) != api.Monitor || w.Owner(1) != api.Monitor || w.Owner(2) != api.Free {
			t.Errorf("P9.1: owners %d, %d, %d", w.Owner(0), w.Owner(1), w.Owner(2))
		}
	}
	w.holds("P9.1", 0, 7)
	w.holds("P9.1", 1, 9)
}
