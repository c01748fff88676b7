package stage_test

import (
	"math/rand"
	"slices"
	"testing"

	"citadel/api"
	"citadel/iommu"
	"citadel/page"
	"citadel/stage"
	"citadel/tlb"
)

// entriesOf are the entries of a space's tables that are not 0: those that name tables, and the leaves.
func (w *world) entriesOf(s *stage.Space) (tables, leaves []uint64) {
	w.t.Helper()
	for _, f := range s.Tables() {
		for i := range uint64(512) {
			switch e := w.entry(f, i); {
			case e == 0:
			case e%(1<<10) == api.PteV:
				tables = append(tables, e>>10)
			default:
				leaves = append(leaves, e)
			}
		}
	}
	return tables, leaves
}

// P10.6: no entry names a table of another space; each table but the root is named once; there is a leaf for each page, and no other.
func TestNoTableOfAnother(t *testing.T) {
	for seed := range int64(20) {
		r := rand.New(rand.NewSource(seed))
		w := newWorld(t, bases[r.Intn(len(bases))], 64, 4)
		spaces := []*stage.Space{w.space(1), w.space(2), w.space(2)}
		for range 60 {
			s := spaces[r.Intn(3)]
			number := uint64(r.Intn(3))<<18 | uint64(r.Intn(3))<<9 | uint64(r.Intn(3))
			if r.Intn(4) == 0 {
				s.Unmap(number)
			} else {
				s.Map(number, r.Intn(4), perms[r.Intn(5)])
			}
		}
		for _, s := range spaces {
			named, leaves := w.entriesOf(s)
			var want []uint64
			for _, f := range s.Tables()[1:] {
				want = append(want, w.number(f))
			}
			slices.Sort(named)
			slices.Sort(want)
			if !slices.Equal(named, want) {
				t.Fatalf("P10.6: entries name %v, tables are %v", named, want)
			}
			if len(leaves) != len(s.Pages()) {
				t.Fatalf("P10.6: %d leaves, %d pages", len(leaves), len(s.Pages()))
			}
			for _, f := range s.Tables() {
				if w.p.Owner(f) != api.Monitor {
					t.Fatalf("P10.6: frame %d, a table's, has %d", f, w.p.Owner(f))
				}
			}
		}
	}
}

// P10.6: the tables say just the pages, over all pages below tables that are there, and some below none.
func TestTablesSayJustThePages(t *testing.T) {
	w, s := fewWorld(t, api.RamBase)
	for _, from := range []uint64{0, 512, 1024, 1 << 18, 1<<18 + 512, 1 << 26, 1<<27 - 512} {
		for number := from; number < from+512; number++ {
			i := slices.IndexFunc(few, func(x api.Page) bool { return x.Page == number })
			if i < 0 {
				w.guest(s, number, api.Page{}, false)
			} else {
				w.guest(s, number, few[i], true)
			}
		}
	}
}

// hart is a TLB that learns what the tables of a space say.
type hart struct{ *tlb.TLB }

// learns has a hart look up a page of a space, as one that runs the guest does.
func (w *world) learns(h hart, s *stage.Space, number uint64) {
	for _, access := range accesses {
		if pa, perm, fault := page.Guest(w.m, s.Root(), number*size, access); fault == api.FaultNone {
			h.Put(api.Trans{Vmid: s.Vmid(), Page: number, Frame: pa / size, Perm: perm})
		}
	}
}

// newHarts are so many harts, each with a TLB.
func newHarts(t *testing.T, n int) []hart {
	t.Helper()
	var list []hart
	for range n {
		x, e := tlb.New(api.MaxTLB)
		if e != api.OK {
			t.Fatal(e)
		}
		list = append(list, hart{x})
	}
	return list
}

// P10.6: behind an Unmap and a post, a TLB that was served holds nothing that was unmapped, one that was not yet may; the other guest's entries stay.
func TestForgotten(t *testing.T) {
	w := newWorld(t, 0, 32, 4)
	a, b := w.space(3), w.space(4)
	w.maps(a, api.Page{Page: 5, Frame: 0, Perm: rw}, api.Page{Page: 6, Frame: 1, Perm: rx})
	w.maps(b, api.Page{Page: 5, Frame: 2, Perm: rwx})
	harts, shoot := newHarts(t, 3), newShoot(t, 3)
	for _, h := range harts {
		w.learns(h, a, 5)
		w.learns(h, a, 6)
		w.learns(h, b, 5)
	}
	if f, e := a.Unmap(5); f != 0 || e != api.OK {
		t.Fatalf("P10.3: Unmap = %d, %d", f, e)
	}
	shoot.Post(a.Vmid())
	for i, h := range harts {
		if _, ok := h.Look(3, 5); !ok {
			t.Errorf("P10.5: hart %d has forgotten ahead of its time", i)
		}
		idle(t, shoot, false)
		if n := shoot.Serve(i, h.TLB); n != 1 {
			t.Errorf("P10.5: Serve(%d) = %d", i, n)
		}
		if want := []api.Trans{{Vmid: 4, Page: 5, Frame: 2, Perm: rwx}}; !slices.Equal(h.Entries(), want) {
			t.Errorf("P10.6: hart %d holds %v", i, h.Entries())
		}
	}
	idle(t, shoot, true)
	w.learns(harts[0], a, 5)
	w.learns(harts[0], a, 6)
	if _, ok := harts[0].Look(3, 5); ok || len(harts[0].Entries()) != 2 {
		t.Errorf("P10.6: hart 0 holds %v", harts[0].Entries())
	}
}

// P10.6: in random lives with TLBs that learn, whenever nothing is due no TLB holds what was unmapped, or more rights than Protect has left, if each Unmap and each Protect is followed by a post.
func TestForgottenInLives(t *testing.T) {
	quiet, stale := 0, 0
	for seed := range int64(30) {
		r := rand.New(rand.NewSource(seed))
		w := newWorld(t, bases[r.Intn(len(bases))], 40, 4)
		spaces := []*stage.Space{w.space(1), w.space(api.MaxVmid)}
		harts := newHarts(t, 1+r.Intn(4))
		shoot := newShoot(t, len(harts))
		for range 400 {
			s, number := spaces[r.Intn(2)], uint64(r.Intn(3)<<18|r.Intn(4))
			switch n := r.Intn(20); {
			case n < 3:
				s.Map(number, r.Intn(4), perms[r.Intn(5)])
			case n < 4:
				if _, e := s.Unmap(number); e == api.OK {
					shoot.Post(s.Vmid())
				}
			case n < 5:
				if s.Protect(number, perms[r.Intn(5)]) == api.OK {
					shoot.Post(s.Vmid())
				}
			case n < 12:
				w.learns(harts[r.Intn(len(harts))], s, number)
			default:
				h := r.Intn(len(harts))
				shoot.Serve(h, harts[h].TLB)
			}
			for h := range harts {
				if n := w.wrong(harts[h], spaces); n > 0 && len(shoot.Due(h)) == 0 {
					t.Fatalf("P10.6: hart %d, which is due nothing, holds %v", h, harts[h].Entries())
				} else if n > 0 {
					stale++
				}
			}
			if shoot.Idle() {
				quiet++
			}
		}
	}
	if quiet < 500 || stale < 200 {
		t.Errorf("idle %d times, %d TLBs that held what was no more", quiet, stale)
	}
}

// wrong is how many entries of a hart say otherwise than the spaces' tables.
func (w *world) wrong(h hart, spaces []*stage.Space) int {
	n := 0
	for _, e := range h.Entries() {
		for _, s := range spaces {
			if s.Vmid() != e.Vmid {
				continue
			}
			if x, ok := s.Find(e.Page); !ok || w.number(x.Frame) != e.Frame || x.Perm != e.Perm {
				n++
			}
		}
	}
	return n
}

// P10.2, P10.6: a space is the table of a device too: what is mapped is come to, and nothing else.
func TestDeviceOfASpace(t *testing.T) {
	w := newWorld(t, size, 16, 3)
	s := w.space(1)
	w.maps(s, api.Page{Page: 5, Frame: 2, Perm: rw}, api.Page{Page: 6, Frame: 1, Perm: api.PteR})
	u, e := iommu.New(w.m, 4)
	if e != api.OK || u.Set(1, s.Root()) != api.OK {
		t.Fatal("no IOMMU")
	}
	for _, x := range []struct {
		addr  uint64
		write bool
		pa    uint64
	}{{0x5008, true, w.at(2) + 8}, {0x6010, false, w.at(1) + 16}, {0x6010, true, 0}, {0x7000, false, 0}} {
		if pa, ok := u.Access(1, x.addr, 8, x.write); pa != x.pa || ok != (x.pa != 0) {
			t.Errorf("P10.6: Access(%#x, %v) = %#x, %v", x.addr, x.write, pa, ok)
		}
	}
	s.Destroy()
	u.Invalidate(1)
	if _, ok := u.Access(1, 0x5008, 8, true); ok {
		t.Error("P10.3: a device comes to a page of a space that was destroyed")
	}
}
