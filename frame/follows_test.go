package frame_test

import (
	"math/rand"
	"slices"
	"testing"

	"citadel/api"
)

// do does a deed to the pool, or to its memory.
func (w *world) do(d deed) (int, api.Errno) {
	w.t.Helper()
	switch d.kind {
	case take:
		return w.Take(d.n)
	case release:
		return 0, w.Release(d.n)
	case ack:
		return w.Ack(d.n), api.OK
	case ackDevices:
		return w.AckDevices(), api.OK
	}
	w.mark(d.n, d.b)
	return 0, api.OK
}

// step does a deed to both, and fails if they differ behind it. Bytes are looked at where it is asked for.
func (w *world) step(c *chapter, d deed, bytes bool) (int, api.Errno) {
	w.t.Helper()
	n, e := w.do(d)
	if want, wants := c.do(d); n != want || e != wants {
		w.t.Fatalf("P9.2, P9.3: %v = %d, %d, not %d, %d", c.done, n, e, want, wants)
	}
	for f := -1; f <= c.frames; f++ {
		if w.Owner(f) != c.owner(f) || w.Waits(f) != c.waits(f) {
			w.t.Fatalf("P9.2, P9.3: behind %v frame %d has %d, not %d, and waits for %#x, not %#x", c.done, f, w.Owner(f), c.owner(f), w.Waits(f), c.waits(f))
		}
	}
	for _, owner := range owners {
		if w.Count(owner) != c.count(owner) {
			w.t.Fatalf("P9.1: behind %v Count(%d) = %d", c.done, owner, w.Count(owner))
		}
	}
	if bytes {
		for f := range c.frames {
			w.holds("P9.3", f, c.holds(f))
		}
	}
	return n, e
}

// P9.1 to P9.3: all that can be done in five deeds to a pool of two frames that are not reserved, one of them taken.
func TestAllDeeds(t *testing.T) {
	ds := []deed{{kind: take, n: 1}, {kind: take, n: api.Monitor}, {kind: release, n: 0}, {kind: release, n: 1}, {kind: release, n: 2}, {kind: ack, n: 0}, {kind: ack, n: 1}, {kind: ackDevices}}
	n := len(ds)
	for reserved := range 2 {
		for rest := range n * n * n * n * n {
			w, c := newWorld(t, 2+reserved, reserved, 1), &chapter{frames: 2 + reserved, reserved: reserved, harts: 1}
			w.step(c, deed{kind: take, n: 2}, false)
			for range 5 {
				w.step(c, ds[rest%n], false)
				rest /= n
			}
		}
	}
}

// anyDeed is some deed, seldom one of what is not there.
func anyDeed(r *rand.Rand, c *chapter) deed {
	wrong := r.Intn(12) == 0
	switch n := r.Intn(100); {
	case n < 30 && wrong:
		return deed{kind: take, n: append([]int{api.Free, api.Limbo}, nobodies...)[r.Intn(2+len(nobodies))]}
	case n < 30:
		return deed{kind: take, n: takers[r.Intn(len(takers))]}
	case n < 50 && wrong:
		return deed{kind: release, n: notFrames(c.frames)[r.Intn(8)]}
	case n < 50:
		return deed{kind: release, n: r.Intn(c.frames)}
	case n < 75 && wrong:
		none := notHarts(c.harts)
		return deed{kind: ack, n: none[r.Intn(len(none))]}
	case n < 75:
		return deed{kind: ack, n: r.Intn(c.harts)}
	case n < 85:
		return deed{kind: ackDevices}
	}
	// Nobody writes a free frame.
	for range 20 {
		if f := r.Intn(c.frames); c.owner(f) != api.Free {
			return deed{kind: write, n: f, b: byte(1 + r.Intn(255))}
		}
	}
	return deed{kind: ackDevices}
}

// P9.1 to P9.4: long lives of pools, held against the chapter read out; whatever is taken has only bytes 0.
func TestLongLives(t *testing.T) {
	var done [kinds]int
	var answers [api.ErrOwner + 1]int
	freed, takenAgain := 0, 0
	for seed := range int64(48) {
		r := rand.New(rand.NewSource(seed))
		frames := 1 + int(seed)%6
		c := &chapter{frames: frames, reserved: r.Intn(frames + 1), harts: 1 + r.Intn(3)}
		if seed%8 == 7 {
			c.reserved, c.harts = 0, api.MaxHarts
		}
		w := newWorld(t, frames, c.reserved, c.harts)
		for range 150 {
			d := anyDeed(r, c)
			n, e := w.step(c, d, true)
			done[d.kind]++
			answers[e]++
			switch {
			case d.kind == take && e == api.OK:
				w.holds("P9.4", n, 0)
				if slices.Contains(c.took[:len(c.took)-1], n) {
					takenAgain++
				}
			case d.kind == ack || d.kind == ackDevices:
				freed += n
			}
		}
	}
	for kind, n := range done {
		if n < 500 {
			t.Errorf("deeds of kind %d: %d", kind, n)
		}
	}
	for _, e := range []api.Errno{api.OK, api.ErrArg, api.ErrFrames, api.ErrOwner} {
		if answers[e] < 100 {
			t.Errorf("answers %d: %d", e, answers[e])
		}
	}
	if freed < 200 || takenAgain < 200 {
		t.Errorf("freed %d, taken again %d", freed, takenAgain)
	}
}

// past is what happened to a frame since it was somebody's: who acknowledged behind its release.
type past struct {
	owner    int
	released bool
	heard    uint64
}

// P9.4: between two ownerships of a frame lie its release and, behind it, an acknowledgement of each hart and of the devices.
func TestBetweenTwoOwners(t *testing.T) {
	passed := 0
	for seed := range int64(40) {
		r := rand.New(rand.NewSource(1000 + seed))
		frames, harts := 2+r.Intn(6), 1+r.Intn(api.MaxHarts)
		w, pasts := newWorld(t, frames, 1, harts), make([]past, frames)
		for range 600 {
			switch n := r.Intn(10); {
			case n < 2:
				owner := takers[r.Intn(len(takers))]
				f, e := w.Take(owner)
				if e != api.OK {
					break
				}
				if p := pasts[f]; p.owner != 0 && (!p.released || p.heard != everybody(harts)) {
					t.Fatalf("P9.4: frame %d goes from %d to %d; released %v, and %#x acknowledged", f, p.owner, owner, p.released, p.heard)
				} else if p.owner != 0 {
					passed++
				}
				pasts[f] = past{owner: owner}
				w.mark(f, byte(f+1))
			case n < 5:
				f := r.Intn(frames)
				if w.Release(f) == api.OK {
					pasts[f].released = true
				}
			default:
				who := r.Intn(harts + 1)
				heard := bitOf(who, harts)
				if who == harts {
					w.AckDevices()
				} else {
					w.Ack(who)
				}
				for f := range pasts {
					if pasts[f].released {
						pasts[f].heard |= heard
					}
				}
			}
			for f := 1; f < frames; f++ {
				if p := pasts[f]; p.released && (p.heard == everybody(harts)) != (w.Owner(f) == api.Free) {
					t.Fatalf("P9.4: frame %d has %d, and %#x acknowledged", f, w.Owner(f), p.heard)
				}
			}
		}
	}
	if passed < 300 {
		t.Errorf("only %d frames went from one to the next", passed)
	}
}

// P9.4: a frame that was written by its owner, and again in limbo, has only bytes 0 when it is taken again, and none of another frame is turned.
func TestWrittenAndTakenAgain(t *testing.T) {
	const harts = 3
	for f := 1; f < 4; f++ {
		for first := range harts + 1 {
			w := newWorld(t, 4, 1, harts)
			w.mark(0, 0xaa)
			for i := 1; i < 4; i++ {
				w.gives(i, i)
				w.mark(i, byte(0xb0+i))
			}
			w.lets(f)
			w.holds("P9.3", f, byte(0xb0+f))
			for i := range harts {
				w.freed((first+i)%(harts+1), harts, 0)
				w.holds("P9.3", f, byte(0xb0+f+i))
				w.mark(f, byte(0xb0+f+i+1))
			}
			w.freed((first+harts)%(harts+1), harts, 1)
			w.gives(8, f)
			w.holds("P9.4", f, 0)
			w.mark(f, 0xcc)
			w.round(harts, 0)
			w.holds("P9.4", f, 0xcc)
			for i := 1; i < 4; i++ {
				if i != f {
					w.holds("P9.4", i, byte(0xb0+i))
				}
			}
			w.holds("P9.4", 0, 0xaa)
		}
	}
}

// P9.4 speaks of frames that nobody wrote while they were free: what is written then is left, since only an acknowledgement clears.
func TestWrittenWhileFree(t *testing.T) {
	w := newWorld(t, 3, 0, 1)
	w.mark(1, 6)
	w.round(1, 0)
	w.gives(1, 0)
	w.gives(2, 1)
	w.holds("P9.2", 1, 6)
	w.lets(1)
	w.round(1, 1)
	w.holds("P9.3", 1, 0)
}
