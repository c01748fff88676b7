package stage_test

import (
	"bytes"
	"testing"

	"citadel/api"
	"citadel/stage"
)

// P10.2: of each VMID, wherever the memory lies: the root is the lowest free frame, the monitor's, with all bytes 0 whatever stood there; nothing else is turned.
func TestNew(t *testing.T) {
	for _, base := range bases {
		for vmid := 1; vmid <= api.MaxVmid; vmid++ {
			w := newWorld(t, base, 6, 2)
			w.p.Take(3)
			w.soil()
			was := w.shot()
			s := w.space(vmid)
			if s.Root() != base/size+3 || s.Vmid() != vmid {
				t.Fatalf("P10.2: Root = %#x, Vmid = %d, of %d over a memory from %#x on", s.Root(), s.Vmid(), vmid, base)
			}
			w.has(s, 3)
			w.tells(s)
			was.owners[3] = api.Monitor
			clear(was.bytes[3*size : 4*size])
			w.still("P10.2", was)
		}
	}
}

// P10.2: no VMID is refused by ErrArg, with free frames and without; and nothing changes.
func TestNewOfNoVmid(t *testing.T) {
	for _, free := range []int{0, 1, 3} {
		w := newWorld(t, 0, 4, 1)
		w.leaves(free)
		w.soil()
		was := w.shot()
		for _, vmid := range notVmids {
			if s, e := stage.New(w.m, w.p, vmid); s != nil || e != api.ErrArg {
				t.Errorf("P10.2: New(%d) = %v, %d", vmid, s, e)
			}
		}
		w.still("R2", was)
	}
}

// P10.2: a pool without a free frame: taken ones, reserved ones and those in limbo are none; the last free one is enough.
func TestNewWithoutFrames(t *testing.T) {
	full := func(w *world) {
		t.Helper()
		was := w.shot()
		for vmid := 1; vmid <= api.MaxVmid; vmid++ {
			if s, e := stage.New(w.m, w.p, vmid); s != nil || e != api.ErrFrames {
				t.Errorf("P10.2: New(%d) = %v, %d", vmid, s, e)
			}
		}
		w.still("R2", was)
	}
	full(newWorld(t, 0, 4, 4))
	w := newWorld(t, 0, 4, 1)
	w.leaves(1)
	w.has(w.space(1), 3)
	full(w)
	w.p.Release(2)
	full(w)
	w.p.Ack(0)
	w.p.Ack(1)
	full(w)
	w.p.AckDevices()
	w.has(w.space(2), 2)
	full(w)
}

// P10.2: a root in the very first frame, of a memory from 0 on, is one too. (page.Guest takes a root of 0 for none.)
func TestRootInFrameNone(t *testing.T) {
	w := newWorld(t, 0, 6, 0)
	s := w.space(1)
	if s.Root() != 0 {
		t.Fatalf("P10.2: Root = %#x", s.Root())
	}
	if _, ok := s.Find(5); ok || s.Has(5*size, 1) {
		t.Error("P10.3: a page is mapped")
	}
	w.maps(s, api.Page{Page: 5, Frame: 4, Perm: rw})
	w.has(s, 0, 1, 2)
	if x, ok := s.Find(5); !ok || x != (api.Page{Page: 5, Frame: 4, Perm: rw}) || s.Has(4*size, 1) {
		t.Errorf("P10.3: Find(5) = %v, %v", x, ok)
	}
	if f, e := s.Unmap(5); f != 4 || e != api.OK {
		t.Errorf("P10.3: Unmap(5) = %d, %d", f, e)
	}
}

// P10.2, P10.3: the lowest frame of a pool may be a table below a root that lies above it.
func TestTableInFrameNone(t *testing.T) {
	w := newWorld(t, 0, 6, 0)
	w.p.Take(1)
	s := w.space(1)
	w.p.Release(0)
	for hart := range 2 {
		w.p.Ack(hart)
	}
	w.p.AckDevices()
	w.maps(s, api.Page{Page: 5, Frame: 4, Perm: rw})
	w.has(s, 1, 0, 2)
	w.tells(s, api.Page{Page: 5, Frame: 4, Perm: rw})
}

// R4: two spaces of one pool have nothing in common but that: what is done to one turns nothing of the other.
func TestTwoSpaces(t *testing.T) {
	w := newWorld(t, size, 24, 2)
	a, b := w.space(1), w.space(1)
	x, y := api.Page{Page: 5, Frame: 0, Perm: rw}, api.Page{Page: 5, Frame: 1, Perm: rx}
	w.maps(a, x)
	w.tells(b)
	w.maps(b, y)
	w.tells(a, x)
	w.tells(b, y)
	w.has(a, 2, 4, 5)
	w.has(b, 3, 6, 7)
	if e := a.Protect(5, api.PteX); e != api.OK {
		t.Fatalf("P10.3: Protect = %d", e)
	}
	w.tells(b, y)
	if f, e := b.Unmap(5); f != 1 || e != api.OK {
		t.Fatalf("P10.3: Unmap = %d, %d", f, e)
	}
	w.tells(a, api.Page{Page: 5, Frame: 0, Perm: api.PteX})
	a.Destroy()
	w.has(b, 3, 6, 7)
	w.maps(b, y)
	w.tells(b, y)
}

// R4: two memories, each with a pool of its own.
func TestTwoWorlds(t *testing.T) {
	v, w := newWorld(t, 0, 8, 1), newWorld(t, 0, 8, 1)
	a, b := v.space(1), w.space(1)
	was := w.all()
	v.maps(a, api.Page{Page: 7, Frame: 6, Perm: rw})
	w.tells(b)
	w.has(b, 1)
	if !bytes.Equal(w.all(), was) || len(w.free()) != 6 {
		t.Error("R4: the other memory has changed")
	}
}
